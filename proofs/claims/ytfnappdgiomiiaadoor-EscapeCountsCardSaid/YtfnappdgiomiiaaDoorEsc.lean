/- Values that may be written: plain lists. -/
import Derived.Test.YtfnappdgiomiiaaDoorEntM
namespace Go.Proofs.YtfnappdgiomiiaaDoor
open Go.RowKit Ent
set_option linter.unusedVariables false
set_option linter.unusedSimpArgs false

/-- What stands for a byte, escaped. -/
def oneE (c : UInt8) : List UInt8 :=
  if c = 38 then [38, 97, 109, 112, 59] else if c = 34 then [38, 35, 51, 52, 59] else if c = 39 then [38, 35, 51, 57, 59]
  else if c = 60 then [38, 35, 54, 48, 59] else if c = 62 then [38, 35, 54, 50, 59] else if c = 96 then [38, 35, 57, 54, 59] else [c]
def spE (c : UInt8) : Bool := c == 38 || c == 34 || c == 39 || c == 60 || c == 62 || c == 96
def escF (l : List UInt8) : List UInt8 := l.flatMap oneE

theorem one_len (c : UInt8) : 1 ≤ (oneE c).length ∧ (oneE c).length ≤ 5 := by
  unfold oneE
  repeat' split
  all_goals simp
theorem one_sp : ∀ c : UInt8, (spE c = true → (oneE c).length = 5 ∧ (oneE c).getD 0 0 = 38 ∧ (oneE c).getD 4 0 = 59) ∧ (spE c = false → oneE c = [c] ∧ c ≠ 38) := byte_all (by decide +kernel)
theorem one_ent : ∀ c : UInt8, entF (oneE c) = [c] := byte_all (by decide +kernel)
theorem one_no : ∀ c : UInt8, ∀ d ∈ oneE c, d ≠ 34 ∧ d ≠ 39 ∧ d ≠ 60 ∧ d ≠ 62 ∧ d ≠ 96 := byte_all (by decide +kernel)

theorem esc_nil : escF [] = [] := rfl
theorem esc_cons (c : UInt8) (r : List UInt8) : escF (c :: r) = oneE c ++ escF r := List.flatMap_cons
theorem esc_app (a b : List UInt8) : escF (a ++ b) = escF a ++ escF b := List.flatMap_append
theorem esc_len : ∀ l : List UInt8, l.length ≤ (escF l).length ∧ (escF l).length ≤ 5 * l.length
  | [] => by simp [esc_nil]
  | c :: r => by
    have h1 := one_len c
    have h2 := esc_len r
    rw [esc_cons, List.length_append, List.length_cons]
    omega

/-- A sign that is told by two digits. -/
theorem ent_two {x y : UInt8} {n : Nat} (r : List UInt8) (hx : dg 10 x = (n / 10 : Nat)) (hy : dg 10 y = (n % 10 : Nat)) (h1 : x ≠ 120) (h2 : x ≠ 88) (hn : n < 100) : entF (38 :: 35 :: x :: y :: 59 :: r) = numberF n ++ entF r := by
  have e : runW 10 (x :: y :: 59 :: r) 0 = ((n : Int), 2) := by
    rw [runW_cons, if_neg (by omega), runW_cons, if_neg (by omega), runW_cons, if_pos (by decide +kernel), hx, hy]
    simp only [Prod.mk.injEq, and_true]
    clear hx hy
    omega
  have e2 : refF (35 :: x :: y :: 59 :: r) = (numberF n, 4) := by
    rw [ref_35, byNum_other h1 h2]
    unfold tailR
    rw [e]
    rfl
  rw [ent_amp, e2]
  rfl

theorem ent_one (c : UInt8) (r : List UInt8) : entF (oneE c ++ r) = c :: entF r := by
  unfold oneE
  by_cases h1 : c = 38
  · subst h1
    rw [if_pos rfl]
    have h := ref_semi (m := [97, 109, 112]) r (by decide +kernel)
    have h2 := ent_ref h
    rw [List.drop_left] at h2
    exact h2
  rw [if_neg h1]
  by_cases h2 : c = 34
  · subst h2
    rw [if_pos rfl]
    exact ent_two (n := 34) r (by decide +kernel) (by decide +kernel) (by decide) (by decide) (by omega)
  rw [if_neg h2]
  by_cases h3 : c = 39
  · subst h3
    rw [if_pos rfl]
    exact ent_two (n := 39) r (by decide +kernel) (by decide +kernel) (by decide) (by decide) (by omega)
  rw [if_neg h3]
  by_cases h4 : c = 60
  · subst h4
    rw [if_pos rfl]
    exact ent_two (n := 60) r (by decide +kernel) (by decide +kernel) (by decide) (by decide) (by omega)
  rw [if_neg h4]
  by_cases h5 : c = 62
  · subst h5
    rw [if_pos rfl]
    exact ent_two (n := 62) r (by decide +kernel) (by decide +kernel) (by decide) (by decide) (by omega)
  rw [if_neg h5]
  by_cases h6 : c = 96
  · subst h6
    rw [if_pos rfl]
    exact ent_two (n := 96) r (by decide +kernel) (by decide +kernel) (by decide) (by decide) (by omega)
  rw [if_neg h6]
  exact ent_cons r h1

/-- What was escaped is read as it was. -/
theorem ent_esc : ∀ (a r : List UInt8), entF (escF a ++ r) = a ++ entF r
  | [], r => rfl
  | c :: a, r => by rw [esc_cons, List.append_assoc, ent_one, ent_esc a r]; rfl
theorem ent_esc0 (a : List UInt8) : entF (escF a) = a := by
  have := ent_esc a []
  rw [List.append_nil, ent_nil, List.append_nil] at this
  exact this

/-! Plain, settled, ahead of a byte. -/
def sixT : List (List UInt8) := [[38, 97, 109, 112, 59], [38, 35, 51, 52, 59], [38, 35, 51, 57, 59], [38, 35, 54, 48, 59], [38, 35, 54, 50, 59], [38, 35, 57, 54, 59]]
def standsF (l : List UInt8) : Bool := sixT.any fun t => l.take 5 == t
/-- A byte that is never plain. -/
def badE (c : UInt8) : Bool := decide (c.toNat < 32) || decide (126 < c.toNat) || c == 34 || c == 39 || c == 60 || c == 62 || c == 96
def plainF : List UInt8 → Bool
  | [] => true
  | c :: r => !badE c && !(c == 38 && !standsF (c :: r)) && plainF r
def settledF (l : List UInt8) : Bool := escF (entF l) == l
def aheadF (q : UInt8) (l : List UInt8) : List UInt8 := l.takeWhile fun c => c != q

theorem settled_esc (a : List UInt8) : settledF (escF a) = true := by unfold settledF; rw [ent_esc0]; exact beq_self_eq_true _

theorem ahead_le (q : UInt8) (l : List UInt8) : (aheadF q l).length ≤ l.length := by
  unfold aheadF
  exact List.Sublist.length_le (List.takeWhile_sublist _)
theorem ahead_no (q : UInt8) (l : List UInt8) : ∀ c ∈ aheadF q l, c ≠ q := by
  induction l with
  | nil => intro c hc; simp [aheadF] at hc
  | cons d r ih =>
    intro c hc
    unfold aheadF at hc ih
    rw [List.takeWhile_cons] at hc
    split at hc
    · rename_i h
      rcases List.mem_cons.1 hc with rfl | hc
      · exact bne_iff_ne.1 h
      · exact ih c hc
    · simp at hc
theorem ahead_all {q : UInt8} {l : List UInt8} (h : ∀ c ∈ l, c ≠ q) : aheadF q l = l := by
  unfold aheadF
  induction l with
  | nil => rfl
  | cons c r ih => rw [List.takeWhile_cons, if_pos (bne_iff_ne.2 (h c List.mem_cons_self)), ih fun d hd => h d (List.mem_cons_of_mem _ hd)]
theorem ahead_cut {q : UInt8} : ∀ {l : List UInt8}, aheadF q l = l ∨ ∃ r, l = aheadF q l ++ q :: r
  | [] => .inl rfl
  | c :: r => by
    unfold aheadF
    rw [List.takeWhile_cons]
    by_cases h : c = q
    · subst h
      rw [if_neg (by simp)]
      exact .inr ⟨r, rfl⟩
    · rw [if_pos (bne_iff_ne.2 h)]
      rcases ahead_cut (q := q) (l := r) with e | ⟨s, e⟩
      · unfold aheadF at e
        exact .inl (by rw [e])
      · unfold aheadF at e
        refine .inr ⟨s, ?_⟩
        rw [List.cons_append, ← e]
theorem ahead_app {q : UInt8} (l r : List UInt8) : aheadF q (l ++ q :: r) = aheadF q l := by
  induction l with
  | nil => unfold aheadF; rw [List.nil_append, List.takeWhile_cons, if_neg (by simp)]; rfl
  | cons c l ih =>
    unfold aheadF at ih ⊢
    rw [List.cons_append, List.takeWhile_cons, List.takeWhile_cons, ih]
theorem ahead_twice (q : UInt8) (l : List UInt8) : aheadF q (aheadF q l) = aheadF q l := ahead_all (ahead_no q l)

theorem esc_no : ∀ (l : List UInt8), ∀ c ∈ escF l, c ≠ 34 ∧ c ≠ 39 ∧ c ≠ 60 ∧ c ≠ 62 ∧ c ≠ 96
  | [], c, h => by simp [esc_nil] at h
  | d :: r, c, h => by
    rw [esc_cons] at h
    rcases List.mem_append.1 h with h | h
    · exact one_no d c h
    · exact esc_no r c h
theorem ahead_esc {q : UInt8} (h : q = 34 ∨ q = 39 ∨ q = 96) (l : List UInt8) : aheadF q (escF l) = escF l := ahead_all fun c hc => by
  have := esc_no l c hc
  rcases h with rfl | rfl | rfl
  · exact this.1
  · exact this.2.1
  · exact this.2.2.2.2

theorem plain_no : ∀ {l : List UInt8}, plainF l = true → ∀ c ∈ l, badE c = false
  | [], _, c, hc => by cases hc
  | d :: r, h, c, hc => by
    unfold plainF at h
    simp only [Bool.and_eq_true, Bool.not_eq_true'] at h
    rcases List.mem_cons.1 hc with rfl | hc
    · exact h.1.1
    · exact plain_no h.2 c hc
theorem plain_ahead {l : List UInt8} (h : plainF l = true) : aheadF 60 l = l ∧ aheadF 34 l = l := by
  constructor
  · refine ahead_all fun c hc => ?_
    rintro rfl
    exact absurd (plain_no h _ hc) (by decide)
  · refine ahead_all fun c hc => ?_
    rintro rfl
    exact absurd (plain_no h _ hc) (by decide)

def fairE (c : UInt8) : Bool := decide (32 ≤ c.toNat) && decide (c.toNat ≤ 126)
/-- The five bytes of a reference are plain, whatever follows. -/
theorem plain_six (t : List UInt8) (ht : t ∈ sixT) (r : List UInt8) : plainF (t ++ r) = plainF r := by
  have key : ∀ (a b c d e : UInt8), [a, b, c, d, e] = t → (a == 38 && !badE a && !badE b && !badE c && !badE d && !badE e && b != 38 && c != 38 && d != 38 && e != 38) = true → plainF (t ++ r) = plainF r := by
    intro a b c d e h hb
    subst h
    simp only [Bool.and_eq_true, beq_iff_eq, Bool.not_eq_true', bne_iff_ne, ne_eq] at hb
    obtain ⟨⟨⟨⟨⟨⟨⟨⟨⟨h1, k1⟩, k2⟩, k3⟩, k4⟩, k5⟩, m2⟩, m3⟩, m4⟩, m5⟩ := hb
    have hs : standsF (a :: b :: c :: d :: e :: r) = true := List.any_eq_true.2 ⟨_, ht, by simp⟩
    show plainF (a :: b :: c :: d :: e :: r) = _
    have f2 : (b == 38) = false := beq_eq_false_iff_ne.2 m2
    have f3 : (c == 38) = false := beq_eq_false_iff_ne.2 m3
    have f4 : (d == 38) = false := beq_eq_false_iff_ne.2 m4
    have f5 : (e == 38) = false := beq_eq_false_iff_ne.2 m5
    simp only [plainF, hs, k1, k2, k3, k4, k5, f2, f3, f4, f5, Bool.not_true, Bool.not_false, Bool.and_false, Bool.false_and, Bool.true_and]
  simp only [sixT, List.mem_cons, List.mem_nil_iff, or_false] at ht
  rcases ht with h | h | h | h | h | h
  all_goals (refine key _ _ _ _ _ h.symm ?_; decide)
theorem one_cases (c : UInt8) : (spE c = true ∧ oneE c ∈ sixT ∧ fairE c = true) ∨ (spE c = false ∧ oneE c = [c] ∧ c ≠ 38 ∧ badE c = !fairE c) := by
  revert c
  refine byte_all ?_
  decide +kernel
theorem plain_esc : ∀ l : List UInt8, plainF (escF l) = l.all fairE
  | [] => rfl
  | c :: r => by
    rw [esc_cons, List.all_cons]
    rcases one_cases c with ⟨h1, h2, h3⟩ | ⟨h1, h2, h3, h4⟩
    · rw [plain_six _ h2, plain_esc r, h3]; rfl
    · rw [h2]
      show plainF (c :: escF r) = _
      have f : (c == 38) = false := beq_eq_false_iff_ne.2 h3
      rw [plainF, f, h4, plain_esc r]
      simp

end Go.Proofs.YtfnappdgiomiiaaDoor
