/- Signs as letters: rows and their numbers. -/
import Derived.Test.YtljgmgbjfjhjmaaPny
namespace Go.Proofs.Ytljgmgbjfjhjmaa.Pny
open Go.RowKit
set_option linter.unusedVariables false
set_option linter.unusedSimpArgs false

/-! The next bias. -/
def adG : Nat → Nat → Nat → Nat
  | 0, e, k => k + 36 * e / (e + 38)
  | f + 1, e, k => if e > 455 then adG f (e / 35) (k + 36) else k + 36 * e / (e + 38)
def adE (d n : Nat) (first : Bool) : Nat := (if first = true then d / 700 else d / 2) + (if first = true then d / 700 else d / 2) / n
def adp (d n : Nat) (first : Bool) : Nat := adG 20 (adE d n first) 0

/-- Is a number a sign? -/
def okC (c : Nat) : Bool := decide (c ≤ 1114111) && !(decide (55296 ≤ c) && decide (c ≤ 57343))

/-! A row is built: a sign is put in. -/
structure Stt where
  out : List Nat
  p : Nat
  c : Nat

def stD (x : Stt) (d : Nat) : Stt := ⟨x.out.take ((x.p + d) % (x.out.length + 1)) ++ (x.c + (x.p + d) / (x.out.length + 1)) :: x.out.drop ((x.p + d) % (x.out.length + 1)), (x.p + d) % (x.out.length + 1) + 1, x.c + (x.p + d) / (x.out.length + 1)⟩
/-- May it be? -/
def okD (x : Stt) (d : Nat) : Bool := okC (x.c + (x.p + d) / (x.out.length + 1)) && decide (x.out.length < 255)

def runD : Stt → List Nat → Option Stt
  | x, [] => some x
  | x, d :: r => if okD x d = true then runD (stD x d) r else none

theorem runD_app : ∀ (a b : List Nat) (x : Stt), runD x (a ++ b) = (runD x a).bind fun y => runD y b
  | [], b, x => rfl
  | d :: a, b, x => by
    show (if okD x d = true then runD (stD x d) (a ++ b) else none) = ((if okD x d = true then runD (stD x d) a else none).bind _)
    split
    · exact runD_app a b _
    · rfl

theorem stD_len (x : Stt) (d : Nat) : (stD x d).out.length = x.out.length + 1 := by
  have : (x.p + d) % (x.out.length + 1) < x.out.length + 1 := Nat.mod_lt _ (by omega)
  unfold stD
  simp only [List.length_append, List.length_take, List.length_cons, List.length_drop]
  omega

/-! The numbers of a row: the signs c of it, from a place on. -/
def scanE (c : Nat) : List Nat → Nat → Nat → List Nat × Nat × Nat
  | [], n, d => ([], n, d)
  | x :: r, n, d => if x < c then scanE c r n (d + 1)
    else if x = c then (d :: (scanE c r (n + 1) 0).1, (scanE c r (n + 1) 0).2)
    else scanE c r n d

def leastN (l : List Nat) (c : Nat) : Nat := l.foldl (fun m x => if c ≤ x then min m x else m) 1114112

def encE (l : List Nat) : Nat → Nat → Nat → Nat → List Nat
  | 0, _, _, _ => []
  | f + 1, c, n, d => if n < l.length then
      (scanE (leastN l c) l n (d + (leastN l c - c) * (n + 1))).1 ++ encE l f (leastN l c + 1) (scanE (leastN l c) l n (d + (leastN l c - c) * (n + 1))).2.1 ((scanE (leastN l c) l n (d + (leastN l c - c) * (n + 1))).2.2 + 1)
    else []

/-- What is told so far: d is on its way from the last sign to this place. -/
structure Way (x : Stt) (c n k d : Nat) : Prop where
  len : x.out.length = n
  le : x.c ≤ c
  eq : d + (x.c * (n + 1) + x.p) = c * (n + 1) + k

theorem way_step {x : Stt} {c n k d : Nat} (h : Way x c n k d) (hk : k ≤ n) : (x.p + d) / (n + 1) = c - x.c ∧ (x.p + d) % (n + 1) = k := by
  obtain ⟨h1, h2, h3⟩ := h
  have e : x.p + d = k + (n + 1) * (c - x.c) := by
    have : c * (n + 1) = x.c * (n + 1) + (n + 1) * (c - x.c) := by
      rw [Nat.mul_comm (n + 1), ← Nat.add_mul, Nat.add_sub_cancel' h2]
    omega
  rw [e]
  constructor
  · rw [Nat.add_mul_div_left _ _ (by omega), Nat.div_eq_of_lt (by omega), Nat.zero_add]
  · rw [Nat.add_mul_mod_self_left, Nat.mod_eq_of_lt (by omega)]

theorem scan_run (c : Nat) (hc : okC c = true) : ∀ (r a : List Nat) (x : Stt) (n d : Nat), (a ++ r).length ≤ 255 → x.out = a.filter (fun z => decide (z ≤ c)) ++ r.filter (fun z => decide (z < c)) → Way x c n (a.filter (fun z => decide (z ≤ c))).length d →
    ∃ y, runD x (scanE c r n d).1 = some y ∧ y.out = (a ++ r).filter (fun z => decide (z ≤ c)) ∧ Way y c (scanE c r n d).2.1 (scanE c r n d).2.1 (scanE c r n d).2.2 ∧ y.c ≤ c
  | [], a, x, n, d, hl, ho, hw => by
    rw [List.filter_nil, List.append_nil] at ho
    have e : (a.filter (fun z => decide (z ≤ c))).length = n := by rw [← ho]; exact hw.len
    rw [e] at hw
    exact ⟨x, rfl, by rw [List.append_nil]; exact ho, hw, hw.le⟩
  | z :: r, a, x, n, d, hl, ho, hw => by
    have hap : a ++ z :: r = (a ++ [z]) ++ r := by simp
    by_cases h1 : z < c
    · have e1 : (a ++ [z]).filter (fun z => decide (z ≤ c)) = a.filter (fun z => decide (z ≤ c)) ++ [z] := by
        rw [List.filter_append, List.filter_cons, if_pos (by simp; omega), List.filter_nil]
      have e2 : (z :: r).filter (fun z => decide (z < c)) = z :: r.filter (fun z => decide (z < c)) := by
        rw [List.filter_cons, if_pos (by simpa using h1)]
      have e3 : scanE c (z :: r) n d = scanE c r n (d + 1) := if_pos h1
      rw [e3, hap]
      refine scan_run c hc r (a ++ [z]) x n (d + 1) (by rw [← hap]; exact hl) (by rw [ho, e1, e2]; simp) ⟨hw.len, hw.le, ?_⟩
      rw [e1, List.length_append, List.length_singleton]
      have := hw.eq
      omega
    · by_cases h2 : z = c
      · subst h2
        have e1 : (a ++ [z]).filter (fun y => decide (y ≤ z)) = a.filter (fun y => decide (y ≤ z)) ++ [z] := by
          rw [List.filter_append, List.filter_cons, if_pos (by simp), List.filter_nil]
        have e2 : (z :: r).filter (fun y => decide (y < z)) = r.filter (fun y => decide (y < z)) := by
          rw [List.filter_cons, if_neg (by simp)]
        have e3 : scanE z (z :: r) n d = (d :: (scanE z r (n + 1) 0).1, (scanE z r (n + 1) 0).2) := by
          show (if z < z then _ else if z = z then _ else _) = _
          rw [if_neg (by omega), if_pos rfl]
        rw [e2] at ho
        have hk : (a.filter (fun y => decide (y ≤ z))).length ≤ n := by
          have := congrArg List.length ho
          rw [hw.len, List.length_append] at this
          omega
        obtain ⟨s1, s2⟩ := way_step hw hk
        have hcc : x.c + (z - x.c) = z := by have := hw.le; omega
        have hn : n < 255 := by
          have h3 := congrArg List.length ho
          have h4 : (a.filter (fun y => decide (y ≤ z))).length ≤ a.length := List.length_filter_le ..
          have h5 : (r.filter (fun y => decide (y < z))).length ≤ r.length := List.length_filter_le ..
          rw [hw.len, List.length_append] at h3
          rw [List.length_append, List.length_cons] at hl
          omega
        have hok : okD x d = true := by
          unfold okD
          rw [hw.len, s1, hcc, hc, decide_eq_true hn]
          rfl
        have hst : stD x d = ⟨a.filter (fun y => decide (y ≤ z)) ++ z :: r.filter (fun y => decide (y < z)), (a.filter (fun y => decide (y ≤ z))).length + 1, z⟩ := by
          unfold stD
          rw [hw.len, s1, s2, hcc, ho, List.take_left, List.drop_left]
        obtain ⟨y, y1, y2, y3, y4⟩ := scan_run z hc r (a ++ [z]) (stD x d) (n + 1) 0 (by rw [← hap]; exact hl) (by rw [hst, e1]; simp) ⟨by rw [stD_len, hw.len], by rw [hst]; exact Nat.le_refl _, by
          rw [hst, e1, List.length_append, List.length_singleton]
          simp only
          omega⟩
        rw [e3, hap]
        refine ⟨y, ?_, y2, y3, y4⟩
        show (if okD x d = true then _ else none) = _
        rw [if_pos hok]
        exact y1
      · have e1 : (a ++ [z]).filter (fun z => decide (z ≤ c)) = a.filter (fun z => decide (z ≤ c)) := by
          rw [List.filter_append, List.filter_cons, if_neg (by simp; omega), List.filter_nil, List.append_nil]
        have e2 : (z :: r).filter (fun z => decide (z < c)) = r.filter (fun z => decide (z < c)) := by
          rw [List.filter_cons, if_neg (by simpa using h1)]
        have e3 : scanE c (z :: r) n d = scanE c r n d := by
          show (if z < c then _ else if z = c then _ else _) = _
          rw [if_neg h1, if_neg h2]
        rw [e3, hap]
        exact scan_run c hc r (a ++ [z]) x n d (by rw [← hap]; exact hl) (by rw [ho, e1, e2]) ⟨hw.len, hw.le, by rw [e1]; exact hw.eq⟩

/-! The least sign from one on. -/
theorem least_go (c : Nat) : ∀ (l : List Nat) (m : Nat), let k := l.foldl (fun m x => if c ≤ x then min m x else m) m; k ≤ m ∧ (∀ x ∈ l, c ≤ x → k ≤ x) ∧ (k = m ∨ (k ∈ l ∧ c ≤ k))
  | [], m => ⟨Nat.le_refl _, fun x hx => (by cases hx), .inl rfl⟩
  | z :: r, m => by
    obtain ⟨h1, h2, h3⟩ := least_go c r (if c ≤ z then min m z else m)
    simp only [List.foldl_cons] at h1 h2 h3 ⊢
    generalize hk : r.foldl (fun m x => if c ≤ x then min m x else m) (if c ≤ z then min m z else m) = k at *
    by_cases hz : c ≤ z
    · rw [if_pos hz] at h1 h3
      refine ⟨by omega, fun x hx hx2 => ?_, ?_⟩
      · rcases List.mem_cons.1 hx with rfl | hx
        · omega
        · exact h2 x hx hx2
      · rcases h3 with h3 | ⟨h3, h4⟩
        · by_cases hm : m ≤ z
          · exact .inl (by omega)
          · exact .inr ⟨by rw [h3, Nat.min_eq_right (by omega)]; exact List.mem_cons_self, by omega⟩
        · exact .inr ⟨List.mem_cons_of_mem _ h3, h4⟩
    · rw [if_neg hz] at h1 h3
      refine ⟨h1, fun x hx hx2 => ?_, ?_⟩
      · rcases List.mem_cons.1 hx with rfl | hx
        · omega
        · exact h2 x hx hx2
      · rcases h3 with h3 | ⟨h3, h4⟩
        · exact .inl h3
        · exact .inr ⟨List.mem_cons_of_mem _ h3, h4⟩
theorem least_of {l : List Nat} {c : Nat} (hs : ∀ x ∈ l, x ≤ 1114111) (h : ∃ x ∈ l, c ≤ x) : leastN l c ∈ l ∧ c ≤ leastN l c ∧ ∀ x ∈ l, c ≤ x → leastN l c ≤ x := by
  obtain ⟨h1, h2, h3⟩ := least_go c l 1114112
  unfold leastN
  rcases h3 with h3 | ⟨h3, h4⟩
  · obtain ⟨x, hx, hx2⟩ := h
    have := h2 x hx hx2
    have := hs x hx
    omega
  · exact ⟨h3, h4, h2⟩

theorem filter_lt_len {l : List Nat} {c : Nat} (h : (l.filter (fun z => decide (z < c))).length < l.length) : ∃ x ∈ l, c ≤ x := by
  apply Classical.byContradiction
  intro hn
  have : l.filter (fun z => decide (z < c)) = l := List.filter_eq_self.2 fun x hx => by
    have : ¬ c ≤ x := fun hc => hn ⟨x, hx, hc⟩
    simpa using this
  rw [this] at h
  omega

/-- The numbers of a row build it. -/
theorem enc_run (l : List Nat) (hl : l.length ≤ 255) (hs : ∀ x ∈ l, okC x = true) : ∀ (f c n d : Nat) (x : Stt), l.length < n + f → x.out = l.filter (fun z => decide (z < c)) → Way x c n 0 d → ∃ y, runD x (encE l f c n d) = some y ∧ y.out = l
  | 0, c, n, d, x, hf, ho, hw => by
    have h1 := hw.len
    have h2 : (l.filter (fun z => decide (z < c))).length ≤ l.length := List.length_filter_le ..
    rw [ho] at h1
    omega
  | f + 1, c, n, d, x, hf, ho, hw => by
    have hs' : ∀ x ∈ l, x ≤ 1114111 := fun x hx => by
      have := hs x hx
      unfold okC at this
      simp only [Bool.and_eq_true, decide_eq_true_eq] at this
      exact this.1
    have hlen := hw.len
    rw [ho] at hlen
    show ∃ y, runD x (if n < l.length then _ else []) = some y ∧ y.out = l
    by_cases hn : n < l.length
    · rw [if_pos hn]
      obtain ⟨m1, m2, m3⟩ := least_of hs' (filter_lt_len (c := c) (by omega))
      generalize leastN l c = m at *
      have hfe : l.filter (fun z => decide (z < c)) = l.filter (fun z => decide (z < m)) := by
        apply List.filter_congr
        intro x hx
        have := m3 x hx
        by_cases h : x < c
        · rw [decide_eq_true h, decide_eq_true (by omega)]
        · rw [decide_eq_false h, decide_eq_false (by have := this (by omega); omega)]
      obtain ⟨y, y1, y2, y3, y4⟩ := scan_run m (hs m m1) l [] x n (d + (m - c) * (n + 1)) (by simpa using hl) (by rw [ho, hfe]; rfl) ⟨hw.len, by have := hw.le; omega, by
        have h3 := hw.eq
        have : m * (n + 1) = c * (n + 1) + (m - c) * (n + 1) := by rw [← Nat.add_mul, Nat.add_sub_cancel' m2]
        simp only [List.filter_nil, List.length_nil]
        omega⟩
      rw [List.nil_append] at y2
      have hgt : n < (scanE m l n (d + (m - c) * (n + 1))).2.1 := by
        have h5 := y3.len
        rw [y2] at h5
        have h6 : (l.filter (fun z => decide (z < m))).length < (l.filter (fun z => decide (z ≤ m))).length := by
          apply filter_more m1
        rw [← hfe] at h6
        omega
      generalize scanE m l n (d + (m - c) * (n + 1)) = s at *
      have hle1 : l.filter (fun z => decide (z ≤ m)) = l.filter (fun z => decide (z < m + 1)) := by
        apply List.filter_congr
        intro x hx
        exact decide_eq_decide.2 (by omega)
      obtain ⟨w, w1, w2⟩ := enc_run l hl hs f (m + 1) s.2.1 (s.2.2 + 1) y (by omega) (by rw [y2, hle1]) ⟨y3.len, by omega, by
        have h3 := y3.eq
        have : (m + 1) * (s.2.1 + 1) = m * (s.2.1 + 1) + (s.2.1 + 1) := by rw [Nat.add_mul, Nat.one_mul]
        omega⟩
      exact ⟨w, by rw [runD_app, y1]; exact w1, w2⟩
    · rw [if_neg hn]
      refine ⟨x, rfl, ?_⟩
      rw [ho]
      exact List.filter_eq_self.2 fun z hz => by
        apply Classical.byContradiction
        intro hc
        have h2 : (l.filter (fun z => decide (z < c))).length < l.length := List.length_filter_lt_length_iff_exists.2 ⟨z, hz, hc⟩
        omega
where
  filter_more : ∀ {l : List Nat} {m : Nat}, m ∈ l → (l.filter (fun z => decide (z < m))).length < (l.filter (fun z => decide (z ≤ m))).length
  | z :: r, m, h => by
    rcases List.mem_cons.1 h with rfl | h
    · rw [List.filter_cons, if_neg (by simp), List.filter_cons, if_pos (by simp), List.length_cons]
      have : (r.filter (fun z => decide (z < m))).length ≤ (r.filter (fun z => decide (z ≤ m))).length := by
        have e : r.filter (fun z => decide (z < m)) = (r.filter (fun z => decide (z ≤ m))).filter (fun z => decide (z < m)) := by
          rw [List.filter_filter]
          apply List.filter_congr
          intro x _
          by_cases hx : x < m
          · simp [hx]; omega
          · simp [hx]
        rw [e]
        exact List.length_filter_le ..
      omega
    · have ih := filter_more h
      rw [List.filter_cons, List.filter_cons]
      by_cases hz : z < m
      · rw [if_pos (by simpa using hz), if_pos (by simp; omega), List.length_cons, List.length_cons]
        omega
      · rw [if_neg (by simpa using hz)]
        split
        · rw [List.length_cons]; omega
        · exact ih

end Go.Proofs.Ytljgmgbjfjhjmaa.Pny
