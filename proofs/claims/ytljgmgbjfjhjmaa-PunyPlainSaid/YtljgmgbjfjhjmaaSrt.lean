/- Rows that are sorted by a key, like ones as they stood: plain lists. -/
import Derived.WalkKit
namespace Go.Proofs.Ytljgmgbjfjhjmaa.Srt
set_option linter.unusedVariables false
set_option linter.unusedSimpArgs false

def le (κ : Nat → Int) (x y : Nat) : Bool := decide (κ x < κ y) || (decide (κ x = κ y) && decide (x ≤ y))
theorem le_iff {κ : Nat → Int} {x y : Nat} : le κ x y = true ↔ κ x < κ y ∨ (κ x = κ y ∧ x ≤ y) := by simp [le]
theorem le_trans {κ : Nat → Int} (x y z : Nat) (h1 : le κ x y = true) (h2 : le κ y z = true) : le κ x z = true := by
  rw [le_iff] at *; omega
theorem le_total {κ : Nat → Int} (x y : Nat) : (le κ x y || le κ y x) = true := by
  rw [Bool.or_eq_true, le_iff, le_iff]; omega
theorem le_anti {κ : Nat → Int} {x y : Nat} (h1 : le κ x y = true) (h2 : le κ y x = true) : x = y := by
  rw [le_iff] at *; omega

def Sor (κ : Nat → Int) (l : List Nat) : Prop := l.Pairwise fun x y => le κ x y = true
/-- The row, sorted. -/
def so (κ : Nat → Int) (l : List Nat) : List Nat := l.mergeSort (le κ)
theorem so_sor (κ : Nat → Int) (l : List Nat) : Sor κ (so κ l) := List.pairwise_mergeSort le_trans le_total l
theorem so_perm (κ : Nat → Int) (l : List Nat) : (so κ l).Perm l := List.mergeSort_perm l _
theorem so_eq {κ : Nat → Int} {l m : List Nat} (h : Sor κ l) (p : l.Perm m) : l = so κ m :=
  List.Perm.eq_of_pairwise (fun a b _ _ h1 h2 => le_anti h1 h2) h (so_sor κ m) (p.trans (so_perm κ m).symm)
theorem so_len (κ : Nat → Int) (l : List Nat) : (so κ l).length = l.length := (so_perm κ l).length_eq
theorem so_mem {κ : Nat → Int} {l : List Nat} {x : Nat} : x ∈ so κ l ↔ x ∈ l := (so_perm κ l).mem_iff
theorem so_nil (κ : Nat → Int) : so κ [] = [] := (so_eq List.Pairwise.nil (List.Perm.refl _)).symm
theorem so_same {κ : Nat → Int} {l m : List Nat} (p : l.Perm m) : so κ l = so κ m := so_eq (so_sor κ l) ((so_perm κ l).trans p)
theorem so_one (κ : Nat → Int) (x : Nat) : so κ [x] = [x] := (so_eq (List.pairwise_singleton _ _) (List.Perm.refl _)).symm

/-- One more, put in where it belongs. -/
theorem so_ins {κ : Nat → Int} {T1 T2 Z : List Nat} {y : Nat} (h : Sor κ (T1 ++ T2)) (h1 : ∀ s ∈ T1, le κ s y = true) (h2 : ∀ s ∈ T2, le κ y s = true) (p : (y :: (T1 ++ T2)).Perm Z) : T1 ++ y :: T2 = so κ Z := by
  obtain ⟨a, b, c⟩ := List.pairwise_append.1 h
  refine so_eq (List.pairwise_append.2 ⟨a, List.pairwise_cons.2 ⟨h2, b⟩, fun x hx z hz => ?_⟩) (List.perm_middle.trans p)
  rcases List.mem_cons.1 hz with rfl | hz
  · exact h1 x hx
  · exact c x hx z hz

theorem so_mono {κ : Nat → Int} {l : List Nat} (h : Sor κ l) {i j : Nat} (hij : i ≤ j) (hj : j < l.length) : κ (l.getD i 0) ≤ κ (l.getD j 0) := by
  rcases Nat.lt_or_ge i j with hlt | hge
  · have := List.pairwise_iff_getElem.1 h i j (by omega) hj hlt
    have e1 : l.getD i 0 = l[i] := by simp [List.getD, show i < l.length by omega]
    have e2 : l.getD j 0 = l[j] := by simp [List.getD, hj]
    rw [e1, e2]
    rw [le_iff] at this
    omega
  · have : i = j := by omega
    subst this
    exact Int.le_refl _

/-- Two sorted rows, each cut in two, are sorted half by half. -/
theorem so_cut {κ : Nat → Int} {A1 A2 B1 B2 : List Nat} (hA : Sor κ (A1 ++ A2)) (hB : Sor κ (B1 ++ B2)) (hp : ∀ x ∈ A1 ++ A2, ∀ y ∈ B1 ++ B2, x < y) (h1 : ∀ x ∈ A1, ∀ y ∈ B2, κ x ≤ κ y) (h2 : ∀ x ∈ A2, ∀ y ∈ B1, κ y < κ x) :
    so κ (A1 ++ B1) ++ so κ (A2 ++ B2) = so κ ((A1 ++ A2) ++ (B1 ++ B2)) := by
  obtain ⟨a1, a2, a3⟩ := List.pairwise_append.1 hA
  obtain ⟨b1, b2, b3⟩ := List.pairwise_append.1 hB
  refine so_eq (List.pairwise_append.2 ⟨so_sor _ _, so_sor _ _, fun x hx y hy => ?_⟩) ?_
  · rw [so_mem, List.mem_append] at hx hy
    rcases hx with hx | hx <;> rcases hy with hy | hy
    · exact a3 x hx y hy
    · have k1 := h1 x hx y hy
      have k2 := hp x (List.mem_append_left _ hx) y (List.mem_append_right _ hy)
      rw [le_iff]; omega
    · have k1 := h2 y hy x hx
      rw [le_iff]; omega
    · exact b3 x hx y hy
  · refine ((so_perm _ _).append (so_perm _ _)).trans ?_
    rw [List.append_assoc, List.append_assoc]
    refine List.Perm.append_left _ ?_
    rw [← List.append_assoc, ← List.append_assoc]
    exact List.Perm.append_right _ List.perm_append_comm

/-- Where two sorted rows are cut: u of the first and h - u of the second go to the left. -/
structure Cut (κ : Nat → Int) (A B : List Nat) (h u : Nat) : Prop where
  u1 : h - B.length ≤ u
  u2 : u ≤ A.length
  u3 : u ≤ h
  l : ∀ i, h - B.length ≤ i → i < u → ¬ κ (B.getD (h - 1 - i) 0) < κ (A.getD i 0)
  r : ∀ i, u ≤ i → i < A.length → i < h → κ (B.getD (h - 1 - i) 0) < κ (A.getD i 0)

theorem mem_getD {l : List Nat} {x : Nat} (h : x ∈ l) : ∃ i, i < l.length ∧ x = l.getD i 0 := by
  obtain ⟨i, hi, rfl⟩ := List.getElem_of_mem h
  exact ⟨i, hi, by simp [List.getD, hi]⟩
theorem getD_take {l : List Nat} {n i : Nat} (h : i < n) : (l.take n).getD i 0 = l.getD i 0 := by
  simp [List.getD, List.getElem?_take, h]
theorem getD_drop (l : List Nat) (n i : Nat) : (l.drop n).getD i 0 = l.getD (n + i) 0 := by
  simp [List.getD, List.getElem?_drop]

theorem cut_so {κ : Nat → Int} {A B : List Nat} {h u : Nat} (hA : Sor κ A) (hB : Sor κ B) (hp : ∀ x ∈ A, ∀ y ∈ B, x < y) (c : Cut κ A B h u) :
    so κ (A.take u ++ B.take (h - u)) ++ so κ (A.drop u ++ B.drop (h - u)) = so κ (A ++ B) := by
  obtain ⟨u1, u2, u3, cl, cr⟩ := c
  have e1 : A.take u ++ A.drop u = A := List.take_append_drop u A
  have e2 : B.take (h - u) ++ B.drop (h - u) = B := List.take_append_drop (h - u) B
  have := so_cut (κ := κ) (A1 := A.take u) (A2 := A.drop u) (B1 := B.take (h - u)) (B2 := B.drop (h - u)) (by rw [e1]; exact hA) (by rw [e2]; exact hB) (by rw [e1, e2]; exact hp) ?_ ?_
  · rw [e1, e2] at this; exact this
  · intro x hx y hy
    obtain ⟨i, hi, rfl⟩ := mem_getD hx
    obtain ⟨j, hj, rfl⟩ := mem_getD hy
    rw [List.length_take] at hi
    rw [List.length_drop] at hj
    rw [getD_take (by omega), getD_drop]
    have k1 := cl (u - 1) (by omega) (by omega)
    have k2 := so_mono hA (show i ≤ u - 1 by omega) (by omega)
    have k3 := so_mono hB (show h - u ≤ h - u + j by omega) (by omega)
    rw [show h - 1 - (u - 1) = h - u by omega] at k1
    omega
  · intro x hx y hy
    obtain ⟨i, hi, rfl⟩ := mem_getD hx
    obtain ⟨j, hj, rfl⟩ := mem_getD hy
    rw [List.length_drop] at hi
    rw [List.length_take] at hj
    rw [getD_take (by omega), getD_drop]
    have k1 := cr u (by omega) (by omega) (by omega)
    have k2 := so_mono hA (show u ≤ u + i by omega) (by omega)
    have k3 := so_mono hB (show j ≤ h - 1 - u by omega) (by omega)
    omega

/-- A row from i up to j; a row with another piece there. -/
def seg (D : List Nat) (i j : Nat) : List Nat := (D.take j).drop i
def put (D : List Nat) (a b : Nat) (Z : List Nat) : List Nat := D.take a ++ (Z ++ D.drop b)
theorem seg_len (D : List Nat) {i j : Nat} (h : j ≤ D.length) : (seg D i j).length = j - i := by
  unfold seg; rw [List.length_drop, List.length_take]; omega
theorem put_len (D : List Nat) {a b : Nat} {Z : List Nat} (h : b ≤ D.length) (hab : a ≤ b) (hZ : Z.length = b - a) : (put D a b Z).length = D.length := by
  unfold put; rw [List.length_append, List.length_append, List.length_take, List.length_drop]; omega
theorem seg_at {P U R : List Nat} {a b : Nat} (ha : P.length = a) (hb : a + U.length = b) : seg (P ++ (U ++ R)) a b = U := by
  subst ha hb
  unfold seg
  rw [← List.append_assoc, show P.length + U.length = (P ++ U).length by simp, List.take_left, List.drop_left]
theorem put_at {P U R Z : List Nat} {a b : Nat} (ha : P.length = a) (hb : a + U.length = b) : put (P ++ (U ++ R)) a b Z = P ++ (Z ++ R) := by
  subst ha hb
  unfold put
  rw [List.take_left, ← List.append_assoc P U R, show P.length + U.length = (P ++ U).length by simp, List.drop_left]
theorem seg_put (D : List Nat) {a b : Nat} (h : a ≤ b) : put D a b (seg D a b) = D := by
  unfold put seg
  have e : D.take a = (D.take b).take a := by rw [List.take_take, Nat.min_eq_left h]
  rw [e, ← List.append_assoc, List.take_append_drop, List.take_append_drop]

/-- A row in pieces. -/
theorem dec2 (D : List Nat) {a b : Nat} (h1 : a ≤ b) (h2 : b ≤ D.length) : ∃ P U Q, D = P ++ (U ++ Q) ∧ P.length = a ∧ U.length = b - a ∧ P = D.take a ∧ U = seg D a b ∧ Q = D.drop b :=
  ⟨D.take a, seg D a b, D.drop b, (seg_put D h1).symm, by rw [List.length_take]; omega, seg_len D h2, rfl, rfl, rfl⟩

theorem getD_mid (A : List Nat) (x : Nat) (R : List Nat) {i : Nat} (h : A.length = i) : (A ++ x :: R).getD i 0 = x := by
  subst h; simp [List.getD]
theorem set_mid (A : List Nat) (x y : Nat) (R : List Nat) {i : Nat} (h : A.length = i) : (A ++ x :: R).set i y = A ++ y :: R := by
  subst h; simp
/-- Two that are exchanged. -/
theorem swp (A B C : List Nat) (x y : Nat) {i j : Nat} (hi : A.length = i) (hj : i + 1 + B.length = j) : ((A ++ (x :: (B ++ y :: C))).set i y).set j x = A ++ (y :: (B ++ x :: C)) := by
  rw [set_mid A x y _ hi]
  have := set_mid (A ++ y :: B) y x C (i := j) (by simp; omega)
  simpa using this
theorem getD_swp (A B C : List Nat) (x y : Nat) {j : Nat} (hj : A.length + 1 + B.length = j) : (A ++ (x :: (B ++ y :: C))).getD j 0 = y := by
  have := getD_mid (A ++ x :: B) y C (i := j) (by simp; omega)
  simpa using this

/-- Where a test ends to hold, by halves. -/
def bsr (t : Nat → Bool) : Nat → Nat → Nat → Nat
  | 0, i, _ => i
  | f + 1, i, j => if i < j then (if t ((i + j) / 2) = true then bsr t f ((i + j) / 2 + 1) j else bsr t f i ((i + j) / 2)) else i
theorem bsr_is (t : Nat → Bool) : ∀ (f i j : Nat), i ≤ j → j - i ≤ f → (∀ c c', i ≤ c → c ≤ c' → c' < j → t c' = true → t c = true) →
    i ≤ bsr t f i j ∧ bsr t f i j ≤ j ∧ (∀ c, i ≤ c → c < bsr t f i j → t c = true) ∧ ∀ c, bsr t f i j ≤ c → c < j → t c = false
  | 0, i, j, h1, h2, h3 => ⟨Nat.le_refl _, h1, fun c k1 k2 => by have k2 : c < i := k2; omega, fun c k1 k2 => by have k1 : i ≤ c := k1; omega⟩
  | f + 1, i, j, h1, h2, h3 => by
    unfold bsr
    by_cases hij : i < j
    · rw [if_pos hij]
      generalize hh : (i + j) / 2 = h at *
      cases ht : t h with
      | true =>
        rw [if_pos rfl]
        obtain ⟨a, b, c, d⟩ := bsr_is t f (h + 1) j (by omega) (by omega) (fun c c' k1 k2 k3 => h3 c c' (by omega) k2 k3)
        refine ⟨by omega, b, fun x k1 k2 => ?_, d⟩
        by_cases hx : x ≤ h
        · exact h3 x h k1 hx (by omega) ht
        · exact c x (by omega) k2
      | false =>
        rw [if_neg (by simp)]
        obtain ⟨a, b, c, d⟩ := bsr_is t f i h (by omega) (by omega) (fun c c' k1 k2 k3 => h3 c c' k1 k2 (by omega))
        refine ⟨a, by omega, c, fun x k1 k2 => ?_⟩
        by_cases hx : x < h
        · exact d x k1 hx
        · cases hc : t x with
          | false => rfl
          | true =>
            have := h3 h x (by omega) (by omega) k2 hc
            rw [ht] at this; cases this
    · rw [if_neg hij]
      exact ⟨Nat.le_refl _, h1, fun c k1 k2 => by omega, fun c k1 k2 => by omega⟩

/-! One that goes from place to place. -/
def hop (P U : List Nat) (y : Nat) (R : List Nat) (u : Nat) : List Nat := P ++ (U.take u ++ y :: (U.drop u ++ R))
theorem hop_len (P U : List Nat) (y : Nat) (R : List Nat) (u : Nat) : (hop P U y R u).length = P.length + U.length + 1 + R.length := by
  unfold hop; simp only [List.length_append, List.length_cons, List.length_take, List.length_drop]; omega
theorem hop_form {P U R : List Nat} {y u : Nat} (h : u < U.length) : hop P U y R u = (P ++ U.take u) ++ (y :: ([] ++ (U.getD u 0) :: (U.drop (u + 1) ++ R))) ∧ hop P U y R (u + 1) = (P ++ U.take u) ++ ((U.getD u 0) :: ([] ++ y :: (U.drop (u + 1) ++ R))) := by
  have e1 : U.drop u = U.getD u 0 :: U.drop (u + 1) := by
    rw [List.drop_eq_getElem_cons h]; simp [List.getD, h]
  have e2 : U.take (u + 1) = U.take u ++ [U.getD u 0] := by
    rw [List.take_add_one]; simp [List.getD, h]
  unfold hop
  rw [e1, e2]
  constructor <;> simp
theorem hop_at {P U R : List Nat} {y u i : Nat} (h : u ≤ U.length) (hi : P.length + u = i) : (hop P U y R u).getD i 0 = y := by
  unfold hop
  rw [← List.append_assoc]
  exact getD_mid _ _ _ (by rw [List.length_append, List.length_take]; omega)
theorem hop_next {P U R : List Nat} {y u i : Nat} (h : u < U.length) (hi : P.length + u + 1 = i) : (hop P U y R u).getD i 0 = U.getD u 0 := by
  rw [(hop_form h).1]
  exact getD_swp _ [] _ _ _ (by rw [List.length_append, List.length_take]; simp; omega)
theorem hop_back {P U R : List Nat} {y u i : Nat} (h : u < U.length) (hi : P.length + u = i) : (hop P U y R (u + 1)).getD i 0 = U.getD u 0 := by
  rw [(hop_form h).2]
  exact getD_mid _ _ _ (by rw [List.length_append, List.length_take]; omega)
theorem hop_up {P U R : List Nat} {y u i : Nat} (h : u < U.length) (hi : P.length + u = i) : ((hop P U y R u).set i (U.getD u 0)).set (i + 1) y = hop P U y R (u + 1) := by
  rw [(hop_form h).1, (hop_form h).2]
  exact swp _ [] _ _ _ (by rw [List.length_append, List.length_take]; omega) (by simp)
theorem hop_down {P U R : List Nat} {y u i : Nat} (h : u < U.length) (hi : P.length + u = i) : ((hop P U y R (u + 1)).set (i + 1) (U.getD u 0)).set i y = hop P U y R u := by
  rw [List.set_comm _ _ (by omega), (hop_form h).1, (hop_form h).2]
  exact swp _ [] _ _ _ (by rw [List.length_append, List.length_take]; omega) (by simp)
theorem hop_0 (P U : List Nat) (y : Nat) (R : List Nat) : hop P U y R 0 = P ++ (([y] ++ U) ++ R) := by simp [hop]
theorem hop_all (P U : List Nat) (y : Nat) (R : List Nat) : hop P U y R U.length = P ++ ((U ++ [y]) ++ R) := by simp [hop]
theorem hop_put (P U : List Nat) (y : Nat) (R : List Nat) (u : Nat) : hop P U y R u = P ++ ((U.take u ++ y :: U.drop u) ++ R) := by simp [hop]

/-! Two pieces that are exchanged, sign by sign. -/
def exch (P U M V R : List Nat) (i : Nat) : List Nat := P ++ ((V.take i ++ U.drop i) ++ (M ++ ((U.take i ++ V.drop i) ++ R)))
theorem exch_len {P U M V R : List Nat} (i : Nat) (h : V.length = U.length) : (exch P U M V R i).length = P.length + U.length + M.length + U.length + R.length := by
  unfold exch; simp only [List.length_append, List.length_take, List.length_drop]; omega
theorem exch_form {P U M V R : List Nat} {i : Nat} (h : V.length = U.length) (hi : i < U.length) :
    exch P U M V R i = (P ++ V.take i) ++ (U.getD i 0 :: ((U.drop (i + 1) ++ (M ++ U.take i)) ++ (V.getD i 0 :: (V.drop (i + 1) ++ R)))) ∧
    exch P U M V R (i + 1) = (P ++ V.take i) ++ (V.getD i 0 :: ((U.drop (i + 1) ++ (M ++ U.take i)) ++ (U.getD i 0 :: (V.drop (i + 1) ++ R)))) := by
  have e1 : U.drop i = U.getD i 0 :: U.drop (i + 1) := by
    rw [List.drop_eq_getElem_cons hi]; simp [List.getD, hi]
  have e2 : U.take (i + 1) = U.take i ++ [U.getD i 0] := by
    rw [List.take_add_one]; simp [List.getD, hi]
  have e3 : V.drop i = V.getD i 0 :: V.drop (i + 1) := by
    rw [List.drop_eq_getElem_cons (by omega)]; simp [List.getD, show i < V.length by omega]
  have e4 : V.take (i + 1) = V.take i ++ [V.getD i 0] := by
    rw [List.take_add_one]; simp [List.getD, show i < V.length by omega]
  unfold exch
  rw [e1, e2, e3, e4]
  constructor <;> simp
theorem exch_step {P U M V R : List Nat} {i a b : Nat} (h : V.length = U.length) (hi : i < U.length) (ha : P.length = a) (hb : a + U.length + M.length = b) :
    (exch P U M V R i).getD (a + i) 0 = U.getD i 0 ∧ (exch P U M V R i).getD (b + i) 0 = V.getD i 0 ∧ ((exch P U M V R i).set (a + i) (V.getD i 0)).set (b + i) (U.getD i 0) = exch P U M V R (i + 1) := by
  obtain ⟨e1, e2⟩ := exch_form (P := P) (M := M) (R := R) h hi
  have l1 : (P ++ V.take i).length = a + i := by rw [List.length_append, List.length_take]; omega
  have l2 : a + i + 1 + (U.drop (i + 1) ++ (M ++ U.take i)).length = b + i := by simp only [List.length_append, List.length_take, List.length_drop]; omega
  rw [e1, e2]
  refine ⟨getD_mid _ _ _ l1, getD_swp _ _ _ _ _ (by rw [l1]; exact l2), swp _ _ _ _ _ l1 l2⟩
theorem exch_0 (P U M V R : List Nat) : exch P U M V R 0 = P ++ (U ++ (M ++ (V ++ R))) := by simp [exch]
theorem exch_all {P U M V R : List Nat} (h : V.length = U.length) : exch P U M V R U.length = P ++ (V ++ (M ++ (U ++ R))) := by
  unfold exch
  rw [← h, List.take_length, List.drop_length, h, List.take_length, List.drop_length]
  simp

/-! Blocks of so many, each sorted. -/
def chunks (κ : Nat → Int) (bs : Nat) (l : List Nat) : List Nat :=
  if h : l = [] ∨ bs = 0 then [] else so κ (l.take bs) ++ chunks κ bs (l.drop bs)
termination_by l.length
decreasing_by
  have : l.length ≠ 0 := fun e => h (.inl (List.eq_nil_of_length_eq_zero e))
  rw [List.length_drop]; omega
theorem chunks_nil (κ : Nat → Int) (bs : Nat) : chunks κ bs [] = [] := by rw [chunks]; simp
theorem chunks_step (κ : Nat → Int) {bs : Nat} (hb : 0 < bs) (l : List Nat) : chunks κ bs l = so κ (l.take bs) ++ chunks κ bs (l.drop bs) := by
  by_cases hl : l = []
  · subst hl
    rw [List.take_nil, List.drop_nil, chunks_nil, so_nil]; rfl
  · rw [chunks, dif_neg (by rintro (h | h); exact hl h; omega)]
theorem chunks_small (κ : Nat → Int) {bs : Nat} (hb : 0 < bs) {l : List Nat} (h : l.length ≤ bs) : chunks κ bs l = so κ l := by
  rw [chunks_step κ hb, List.take_of_length_le h, List.drop_of_length_le h, chunks_nil, List.append_nil]
theorem chunks_app (κ : Nat → Int) {bs : Nat} (hb : 0 < bs) : ∀ (q : Nat) (X Y : List Nat), X.length = q * bs → chunks κ bs (X ++ Y) = chunks κ bs X ++ chunks κ bs Y
  | 0, X, Y, h => by
    have : X = [] := List.eq_nil_of_length_eq_zero (by omega)
    subst this
    rw [chunks_nil]; rfl
  | q + 1, X, Y, h => by
    rw [Nat.succ_mul] at h
    rw [chunks_step κ hb (X ++ Y), chunks_step κ hb X, List.take_append_of_le_length (by omega), List.drop_append_of_le_length (by omega), chunks_app κ hb q _ Y (by rw [List.length_drop]; omega), List.append_assoc]
theorem chunks_len (κ : Nat → Int) {bs : Nat} (hb : 0 < bs) : ∀ (n : Nat) (l : List Nat), l.length ≤ n → (chunks κ bs l).length = l.length
  | 0, l, h => by
    have : l = [] := List.eq_nil_of_length_eq_zero (by omega)
    subst this; rw [chunks_nil]
  | n + 1, l, h => by
    by_cases hl : l = []
    · subst hl; rw [chunks_nil]
    · have : l.length ≠ 0 := fun e => hl (List.eq_nil_of_length_eq_zero e)
      rw [chunks_step κ hb, List.length_append, so_len, chunks_len κ hb n _ (by rw [List.length_drop]; omega), List.length_take, List.length_drop]
      omega

end Go.Proofs.Ytljgmgbjfjhjmaa.Srt
