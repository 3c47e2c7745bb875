/- The library's stable sort at rows of numbers: contracts of merging, and of the whole. -/
import Derived.Test.YtljgmgbjfjhjmaaSrtF
namespace Go.Proofs.Ytljgmgbjfjhjmaa
open Go.RowKit Srt
set_option linter.unusedVariables false
set_option linter.unusedSimpArgs false

theorem len_one {D : List Nat} (h : D.length = 1) : ∃ y, D = [y] := by
  match D, h with
  | [y], _ => exact ⟨y, rfl⟩

/-- A row in four pieces. -/
theorem dec4 (D : List Nat) {a m b : Nat} (h1 : a ≤ m) (h2 : m ≤ b) (h3 : b ≤ D.length) : ∃ P A B Q, D = P ++ (A ++ (B ++ Q)) ∧ P.length = a ∧ a + A.length = m ∧ m + B.length = b ∧ A = seg D a m ∧ B = seg D m b := by
  obtain ⟨P, U, M, V, R, hD, e1, e2, e3, e4⟩ := dec5 D (a := a) (b := m) (c := 0) (by omega) (by omega)
  have : U = [] := List.eq_nil_of_length_eq_zero e2
  have : V = [] := List.eq_nil_of_length_eq_zero e4
  subst_vars
  simp only [List.nil_append] at *
  obtain ⟨P2, U2, Q2, hR, k1, k2, _, _, _⟩ := dec2 R (a := 0) (b := b - m) (by omega) (by simp only [List.length_append] at h3; omega)
  have : P2 = [] := List.eq_nil_of_length_eq_zero k1
  subst this
  rw [List.nil_append] at hR
  subst hR
  exact ⟨P, M, U2, Q2, rfl, rfl, by omega, by omega, (seg_at rfl (by omega)).symm, by rw [← List.append_assoc]; exact (seg_at (by rw [List.length_append]; omega) (by omega)).symm⟩

/-- What is known where two sorted blocks are made one. -/
structure SyH (P A B Q : List Nat) (n a m b : Nat) (L : List Int) : Prop where
  e1 : P.length = a
  e2 : a + A.length = m
  e3 : m + B.length = b
  h2 : P.length + (A.length + (B.length + Q.length)) = n
  h3 : n ≤ 255
  h5 : a < m
  h6 : m < b
  hA : Sor (keyL L) A
  hB : Sor (keyL L) B
  hlt : ∀ x ∈ A, ∀ y ∈ B, x < y
  h10 : SmI L
  h11 : BdR (P ++ (A ++ (B ++ Q))) L.length
def SyG (P A B Q : List Nat) (n a m b : Nat) (L : List Int) : Prop := ∃ cl ks hs lp fuel p, CallOK Try.prog cl ∧ LpOK (ExtK 2) Try.prog lp ∧
  outKill ks (aBody Try.prog cl hs lp fuel 52 [.sl 0 0 n, .c (.int .i64 a), .c (.int .i64 m), .c (.int .i64 b), srF] (srH (P ++ (A ++ (B ++ Q))) L.length (rowN L))) = some (.tu [], srH (P ++ (so (keyL L) (A ++ B) ++ Q)) L.length (rowN L), p) ∧ allP p

theorem sym1 {P A B Q : List Nat} {n a m b : Nat} {L : List Int} (h : SyH P A B Q n a m b L) (c1 : a + 1 = m) : SyG P A B Q n a m b L := by
  obtain ⟨e1, e2, e3, h2, h3, h5, h6, hA, hB, hlt, h10, h11⟩ := h
  obtain ⟨x, rfl⟩ := len_one (D := A) (by omega)
  have w1 := sa_walk (P ++ ([x] ++ (B ++ Q))) n a m b L h3 (by simp only [List.length_append]; omega) h10 h11 (by omega) (by omega) (by omega)
  have hx : (P ++ ([x] ++ (B ++ Q))).getD a 0 = x := getD_mid P x (B ++ Q) e1
  have hb' : ∀ j, j < B.length → (P ++ ([x] ++ (B ++ Q))).getD (m + j) 0 = B.getD j 0 := fun j hj => getB P [x] B Q (by simp; omega) hj
  obtain ⟨k1, k2, k3, k4⟩ := bsr_is (fun c => ltK L (P ++ ([x] ++ (B ++ Q))) c a) (b - m) m b (by omega) (Nat.le_refl _) (fun c c' g1 g2 g3 g4 => by
    obtain ⟨i, rfl⟩ : ∃ i, c = m + i := ⟨c - m, by omega⟩
    obtain ⟨i', rfl⟩ : ∃ i, c' = m + i := ⟨c' - m, by omega⟩
    simp only [ltK, hx, hb' i (by omega), hb' i' (by omega), decide_eq_true_eq] at g4 ⊢
    have := so_mono hB (i := i) (j := i') (by omega) (by omega)
    omega)
  generalize bsr (fun c => ltK L (P ++ ([x] ++ (B ++ Q))) c a) (b - m) m b = s at *
  obtain ⟨v, rfl⟩ : ∃ v, s = m + v := ⟨s - m, by omega⟩
  have w2 := mu_walk P B Q x n a m b v L h3 (by simp only [List.length_singleton] at h2; omega) e1 (by omega)
  rw [hop_0, List.append_assoc [x] B Q, show a + v + 1 = m + v by omega] at w2
  have hfin : hop P B x Q v = P ++ (so (keyL L) ([x] ++ B) ++ Q) := by
    rw [hop_put]
    congr 2
    refine so_ins (by rw [List.take_append_drop]; exact hB) (fun z hz => ?_) (fun z hz => ?_) (by rw [List.take_append_drop]; exact List.Perm.refl _)
    · obtain ⟨i, hi, rfl⟩ := mem_getD hz
      rw [List.length_take] at hi
      rw [getD_take (by omega)]
      have := k3 (m + i) (by omega) (by omega)
      simp only [ltK, hx, hb' i (by omega), decide_eq_true_eq] at this
      rw [le_iff]; omega
    · have hz2 := hlt x (by simp) z (List.mem_of_mem_drop hz)
      obtain ⟨i, hi, rfl⟩ := mem_getD hz
      rw [List.length_drop] at hi
      rw [getD_drop] at hz2 ⊢
      have := k4 (m + (v + i)) (by omega) (by omega)
      simp only [ltK, hx, hb' (v + i) (by omega), decide_eq_false_iff_not] at this
      rw [le_iff]; omega
  rw [hfin] at w2
  obtain ⟨hh, p, e, hp⟩ := sy1_all (P ++ ([x] ++ (B ++ Q))) _ n a m b (m + v) (a + v) L h3 c1 (by omega)
  exact ⟨_, _, _, _, _, _, cl0_ok, lpBy_consK (lpBy_consK lpBy_nilK kp2 w2) kp2 w1, e, hp⟩

theorem sym2 {P A B Q : List Nat} {n a m b : Nat} {L : List Int} (h : SyH P A B Q n a m b L) (c1 : ¬ a + 1 = m) (c2 : m + 1 = b) : SyG P A B Q n a m b L := by
  obtain ⟨e1, e2, e3, h2, h3, h5, h6, hA, hB, hlt, h10, h11⟩ := h
  obtain ⟨y, rfl⟩ := len_one (D := B) (by omega)
  have w1 := sb_walk (P ++ (A ++ ([y] ++ Q))) n a m b L h3 (by simp only [List.length_append]; omega) h10 h11 (by omega) (by omega)
  have hy : (P ++ (A ++ ([y] ++ Q))).getD m 0 = y := by
    have := getD_mid (P ++ A) y Q (i := m) (by rw [List.length_append]; omega)
    simpa using this
  have ha' : ∀ j, j < A.length → (P ++ (A ++ ([y] ++ Q))).getD (a + j) 0 = A.getD j 0 := fun j hj => getA P A ([y] ++ Q) e1 hj
  obtain ⟨k1, k2, k3, k4⟩ := bsr_is (fun c => !ltK L (P ++ (A ++ ([y] ++ Q))) m c) (m - a) a m (by omega) (Nat.le_refl _) (fun c c' g1 g2 g3 g4 => by
    obtain ⟨i, rfl⟩ : ∃ i, c = a + i := ⟨c - a, by omega⟩
    obtain ⟨i', rfl⟩ : ∃ i, c' = a + i := ⟨c' - a, by omega⟩
    simp only [ltK, hy, ha' i (by omega), ha' i' (by omega), Bool.not_eq_true', decide_eq_false_iff_not] at g4 ⊢
    have := so_mono hA (i := i) (j := i') (by omega) (by omega)
    omega)
  generalize bsr (fun c => !ltK L (P ++ (A ++ ([y] ++ Q))) m c) (m - a) a m = s at *
  obtain ⟨v, rfl⟩ : ∃ v, s = a + v := ⟨s - a, by omega⟩
  have w2 := md_walk P A Q y n a m b v L h3 (by simp only [List.length_singleton] at h2; omega) e1 (by omega) (by omega)
  rw [hop_all, List.append_assoc A [y] Q] at w2
  have hfin : hop P A y Q v = P ++ (so (keyL L) (A ++ [y]) ++ Q) := by
    rw [hop_put]
    congr 2
    refine so_ins (by rw [List.take_append_drop]; exact hA) (fun z hz => ?_) (fun z hz => ?_) (by rw [List.take_append_drop]; exact (List.perm_append_singleton y A).symm)
    · have hz2 := hlt z (List.mem_of_mem_take hz) y (by simp)
      obtain ⟨i, hi, rfl⟩ := mem_getD hz
      rw [List.length_take] at hi
      rw [getD_take (by omega)] at hz2 ⊢
      have := k3 (a + i) (by omega) (by omega)
      simp only [ltK, hy, ha' i (by omega), Bool.not_eq_true', decide_eq_false_iff_not] at this
      rw [le_iff]; omega
    · obtain ⟨i, hi, rfl⟩ := mem_getD hz
      rw [List.length_drop] at hi
      rw [getD_drop]
      have := k4 (a + (v + i)) (by omega) (by omega)
      simp only [ltK, hy, ha' (v + i) (by omega), Bool.not_eq_false', decide_eq_true_eq] at this
      rw [le_iff]; omega
  rw [hfin] at w2
  obtain ⟨hh, p, e, hp⟩ := sy2_all (P ++ (A ++ ([y] ++ Q))) _ n a m b (a + v) L h3 c1 (by omega) c2 (by omega)
  exact ⟨_, _, _, _, _, _, cl0_ok, lpBy_consK (lpBy_consK lpBy_nilK kp2 w2) kp2 w1, e, hp⟩

set_option maxHeartbeats 1000000 in
theorem sym3 {P A B Q : List Nat} {n a m b : Nat} {L : List Int} (h : SyH P A B Q n a m b L) {K : Nat} (clok : CallOK Try.prog (clSy K)) (hK : b ≤ a + K) (c1 : ¬ a + 1 = m) (c2 : ¬ m + 1 = b) : SyG P A B Q n a m b L := by
  obtain ⟨e1, e2, e3, h2, h3, h5, h6, hA, hB, hlt, h10, h11⟩ := h
  obtain ⟨mid, hmid⟩ : ∃ mid, (a + b) / 2 = mid := ⟨_, rfl⟩
  have hD : (P ++ (A ++ (B ++ Q))).length = n := by simp only [List.length_append]; omega
  obtain ⟨u, hu, hcut⟩ := sy_cut (L := L) (Q := Q) (lo := a + (mid - a - B.length)) (hi := a + min A.length (mid - a)) e1 e2 e3 hmid hA hB rfl rfl
  have w1 := se_walk (P ++ (A ++ (B ++ Q))) n a m b mid (a + (mid - a - B.length)) (a + min A.length (mid - a)) L h3 hD h10 h11 (by omega) (by omega) (by omega) (by omega)
  rw [hu] at w1
  have hcs := cut_so hA hB hlt hcut
  obtain ⟨u1, u2, u3, _, _⟩ := hcut
  have ea : A = A.take u ++ A.drop u := (List.take_append_drop u A).symm
  have eb : B = B.take (mid - a - u) ++ B.drop (mid - a - u) := (List.take_append_drop _ B).symm
  have la : (A.take u).length = u := by rw [List.length_take]; omega
  have la2 : (A.drop u).length = A.length - u := List.length_drop
  have lb : (B.take (mid - a - u)).length = mid - a - u := by rw [List.length_take]; omega
  have lb2 : (B.drop (mid - a - u)).length = B.length - (mid - a - u) := List.length_drop
  have hsp : P ++ (A ++ (B ++ Q)) = P ++ (A.take u ++ (A.drop u ++ (B.take (mid - a - u) ++ (B.drop (mid - a - u) ++ Q)))) := by
    rw [← List.append_assoc (B.take _), ← eb, ← List.append_assoc (A.take u), ← ea]
  obtain ⟨D1, D2, D3, d1, d2, d3, d4, n1, n2, n3, l1, l2, b1, b2, q1, q2, q3, q4, q5, q6⟩ := sy_parts (L := L) (P := P) (A1 := A.take u) (A2 := A.drop u) (B1 := B.take (mid - a - u)) (B2 := B.drop (mid - a - u)) (Q := Q) (n := n) (a := a) (m := m) (b := b) (s := a + u) (e := m + (mid - a - u)) (mid := mid)
    e1 (by omega) (by omega) (by omega) (by omega) (by omega) (by rw [← ea]; exact hA) (by rw [← eb]; exact hB) (by rw [← ea, ← eb]; exact hlt) (by rw [← hsp]; exact h11)
  rw [← hsp] at d1 n1 l1 l2
  have hD3 : D3 = P ++ (so (keyL L) (A ++ B) ++ Q) := by rw [d4, ← List.append_assoc (so _ _), hcs]
  unfold SyG
  rw [← hD3]
  rw [hD] at l1 l2
  by_cases c3 : mid < m
  · have w2 := w1
    rw [show a + (mid - a - B.length) = mid + m - b by omega, show a + min A.length (mid - a) = mid by omega] at w2
    obtain ⟨hh, p, e, hp⟩ := sy3T_all K n a m b (a + u) (m + (mid - a - u)) mid (P ++ (A ++ (B ++ Q))) D1 D2 D3 L c3 h3 (by omega) (by omega) (by omega) hmid (by omega) (by omega) (by omega) (by omega) (by omega) (by omega) n1 n2 n3 d1.symm d2.symm d3.symm hD l1 l2 b1 b2 h10 q1 q2 q3 q4 q5 q6 (by omega)
    exact ⟨_, _, _, _, _, _, clok, lpBy_consK lpBy_nilK kp2 w2, e, hp⟩
  · have w2 := w1
    rw [show a + (mid - a - B.length) = a by omega, show a + min A.length (mid - a) = m by omega] at w2
    obtain ⟨hh, p, e, hp⟩ := sy3F_all K n a m b (a + u) (m + (mid - a - u)) mid (P ++ (A ++ (B ++ Q))) D1 D2 D3 L (by omega) h3 (by omega) (by omega) (by omega) hmid (by omega) (by omega) (by omega) (by omega) (by omega) (by omega) n1 n2 n3 d1.symm d2.symm d3.symm hD l1 l2 b1 b2 h10 q1 q2 q3 q4 q5 q6 (by omega)
    exact ⟨_, _, _, _, _, _, clok, lpBy_consK lpBy_nilK kp2 w2, e, hp⟩

theorem sym_ok : ∀ K, HSpecOK Try.prog 52 (symSpec K)
  | 0 => by
    intro args hp r hp' q hs hq
    unfold symSpec at hs
    split at hs
    · split at hs
      · simp only [Option.some.injEq, Prod.mk.injEq] at hs
        obtain ⟨rfl, rfl, rfl⟩ := hs
        obtain ⟨_, _, _, h4, h5, h6, _, _, _, _, _, _, _, _, h15, _⟩ := hq
        exfalso; omega
      · simp at hs
    · simp at hs
  | K + 1 => by
    have clok : CallOK Try.prog (clSy K) := aCallH_ok mixed (sgBy_cons cmp_ok sgBy_nil) (hsgBy_cons rot_ok (hsgBy_cons (sym_ok K) hsgBy_nil)) 500 8
    refine hspec_any mixed fun args hp r hp' q hs hq => ?_
    unfold symSpec at hs
    split at hs
    · rename_i n a m b f t C t2 s k l
      split at hs
      · rename_i hc
        obtain ⟨⟨rfl, rfl⟩, rfl, rfl⟩ := hc
        simp only [Option.some.injEq, Prod.mk.injEq] at hs
        obtain ⟨rfl, rfl, rfl⟩ := hs
        obtain ⟨h1, h2, h3, h4, h5, h6, h7, h8, h9, h10, h11, h12, h13, h14, h15, _⟩ := hq
        obtain ⟨a, rfl⟩ : ∃ k : Nat, a = (k : Int) := ⟨a.toNat, by omega⟩
        obtain ⟨m, rfl⟩ : ∃ k : Nat, m = (k : Int) := ⟨m.toNat, by omega⟩
        obtain ⟨b, rfl⟩ : ∃ k : Nat, b = (k : Int) := ⟨b.toNat, by omega⟩
        simp only [Int.toNat_natCast] at h12 h13 h14 ⊢
        generalize unI l = L at *
        generalize unnats C = D at *
        subst h1 h8 h9
        obtain ⟨P, A, B, Q, rfl, e1, e2, e3, e4, e5⟩ := dec4 D (a := a) (m := m) (b := b) (by omega) (by omega) (by omega)
        have hA : Sor (keyL L) A := by rw [e4]; exact h12
        have hB : Sor (keyL L) B := by rw [e5]; exact h13
        have hlt : ∀ x ∈ A, ∀ y ∈ B, x < y := fun x hx y hy => h14 x (by rw [← e4]; exact hx) y (by rw [← e5]; exact hy)
        clear e4 e5 h12 h13 h14
        have hso : soD L (P ++ (A ++ (B ++ Q))) a b = P ++ (so (keyL L) (A ++ B) ++ Q) := by
          unfold soD
          rw [← List.append_assoc A B, put_at e1 (by rw [List.length_append]; omega), seg_at e1 (by rw [List.length_append]; omega)]
        rw [hso]
        simp only [List.length_append] at h2
        have hS : SyH P A B Q n a m b L := ⟨e1, e2, e3, h2, h3, by omega, by omega, hA, hB, hlt, h10, h11⟩
        by_cases c1 : a + 1 = m
        · exact sym1 hS c1
        · by_cases c2 : m + 1 = b
          · exact sym2 hS c1 c2
          · exact sym3 hS clok (by omega) c1 c2
      · simp at hs
    · simp at hs

end Go.Proofs.Ytljgmgbjfjhjmaa
