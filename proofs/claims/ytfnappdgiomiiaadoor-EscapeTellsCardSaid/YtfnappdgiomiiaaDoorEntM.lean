/- References: what is read of names and of numbers; plain lists. -/
import Derived.Test.YtfnappdgiomiiaaDoorEntC
namespace Go.Proofs.YtfnappdgiomiiaaDoor
open Go.RowKit Ent
set_option linter.unusedVariables false
set_option linter.unusedSimpArgs false

/-! A number's digits. -/
def hexL : List UInt8 := [48, 49, 50, 51, 52, 53, 54, 55, 56, 57, 97, 98, 99, 100, 101, 102]
def hexC (d : Nat) : UInt8 := hexL.getD d 0
def digB (b : Nat) : Nat → Nat → List UInt8
  | 0, n => [hexC (n % b)]
  | f + 1, n => if n < b then [hexC n] else digB b f (n / b) ++ [hexC (n % b)]
def digF (b n : Nat) : List UInt8 := digB b 24 n

theorem digB_succ (b f n : Nat) : digB b (f + 1) n = if n < b then [hexC n] else digB b f (n / b) ++ [hexC (n % b)] := rfl
theorem div_lt2 {b n m : Nat} (hb : 2 ≤ b) (h : n < 2 * m) : n / b < m := by
  rw [Nat.div_lt_iff_lt_mul (by omega)]
  exact Nat.lt_of_lt_of_le h (by rw [Nat.mul_comm]; exact Nat.mul_le_mul_left _ hb)
theorem digB_more {b : Nat} (hb : 2 ≤ b) : ∀ (f n : Nat), n < 2 ^ f → digB b (f + 1) n = digB b f n
  | 0, n, h => by
    have hn : n = 0 := by simpa using h
    subst hn
    rw [digB_succ, if_pos (by omega)]
    rfl
  | f + 1, n, h => by
    rw [digB_succ b (f + 1) n, digB_succ b f n]
    by_cases hn : n < b
    · rw [if_pos hn, if_pos hn]
    · rw [if_neg hn, if_neg hn, digB_more hb f (n / b) (div_lt2 hb (by rw [Nat.mul_comm, ← Nat.pow_succ]; exact h))]
theorem digF_step {b n : Nat} (hb : 2 ≤ b) (h : n < 2 ^ 24) : digF b n = if n < b then [hexC n] else digF b (n / b) ++ [hexC (n % b)] := by
  unfold digF
  rw [digB]
  split
  · rfl
  · rw [digB_more hb 23 (n / b) (div_lt2 hb (by exact h))]
theorem digB_ne (b : Nat) : ∀ f n, digB b f n ≠ []
  | 0, n => by simp [digB]
  | f + 1, n => by rw [digB_succ]; split <;> simp
theorem digB_len (b : Nat) : ∀ f n, (digB b f n).length ≤ f + 1
  | 0, n => by simp [digB]
  | f + 1, n => by
    rw [digB_succ]
    split
    · simp
    · rw [List.length_append, List.length_singleton]
      have := digB_len b f (n / b)
      omega
theorem digF_len (b n : Nat) : (digF b n).length ≤ 25 ∧ digF b n ≠ [] := ⟨digB_len b 24 n, digB_ne b 24 n⟩

theorem hex_at {d : Nat} (h : d < 16) : List.drop d (List.take (d + 1) hexL) = [hexC d] := by
  have k : ∀ y : Fin 16, List.drop y.val (List.take (y.val + 1) hexL) = [hexC y.val] := by decide
  exact k ⟨d, h⟩

/-- A number's digits, noughts ahead. -/
def digZ (b n z : Nat) : List UInt8 := List.replicate z 48 ++ digF b n

/-! Digits are read. -/
def accW (b : Int) (a : List UInt8) (n : Int) : Int := a.foldl (fun n c => min (b * n + dg b c) 1114112) n
def allG (b : Int) (a : List UInt8) : Prop := ∀ c ∈ a, 0 ≤ dg b c

theorem accW_app (b : Int) (a r : List UInt8) (n : Int) : accW b (a ++ r) n = accW b r (accW b a n) := by unfold accW; rw [List.foldl_append]
theorem runW_app (b : Int) : ∀ (a r : List UInt8) (n : Int), allG b a → runW b (a ++ r) n = ((runW b r (accW b a n)).1, a.length + (runW b r (accW b a n)).2)
  | [], r, n, _ => by simp [accW]
  | c :: a, r, n, h => by
    have hc := h c List.mem_cons_self
    rw [List.cons_append, runW_cons, if_neg (by omega), runW_app b a r _ (fun d hd => h d (List.mem_cons_of_mem _ hd))]
    have e : accW b (c :: a) n = accW b a (min (b * n + dg b c) 1114112) := rfl
    rw [e, List.length_cons]
    simp only [Prod.mk.injEq, true_and]
    omega
/-- Does no digit stand first? -/
def noDig (b : Int) (r : List UInt8) : Prop := ∀ c q, r = c :: q → dg b c < 0
theorem runW_stop {b : Int} {r : List UInt8} (n : Int) (h : noDig b r) : runW b r n = (n, 0) := by
  cases r with
  | nil => rfl
  | cons c q => rw [runW_cons, if_pos (h c q rfl)]

theorem hex_dg10 {d : Nat} (h : d < 10) : dg 10 (hexC d) = d := by
  have k : ∀ y : Fin 10, dg 10 (hexC y.val) = (y.val : Nat) := by decide +kernel
  exact k ⟨d, h⟩
theorem hex_dg16 {d : Nat} (h : d < 16) : dg 16 (hexC d) = d := by
  have k : ∀ y : Fin 16, dg 16 (hexC y.val) = (y.val : Nat) := by decide +kernel
  exact k ⟨d, h⟩
theorem hex_dg {b d : Nat} (hb : b = 10 ∨ b = 16) (h : d < b) : dg b (hexC d) = d := by
  rcases hb with rfl | rfl
  · exact hex_dg10 h
  · exact hex_dg16 h

theorem dig_acc {b : Nat} (hb : b = 10 ∨ b = 16) : ∀ (f n : Nat), n < 2 ^ (f + 1) → allG b (digB b f n) ∧ accW b (digB b f n) 0 = min (n : Int) 1114112
  | 0, n, h => by
    have hn : n < b := by omega
    have hd : n % b < b := Nat.mod_lt _ (by omega)
    have hx := hex_dg hb hd
    refine ⟨fun c hc => ?_, ?_⟩
    · obtain rfl : c = hexC (n % b) := by simpa [digB] using hc
      omega
    · show min ((b : Int) * 0 + dg b (hexC (n % b))) 1114112 = _
      rw [hx, Nat.mod_eq_of_lt hn]
      omega
  | f + 1, n, h => by
    rw [digB_succ]
    by_cases hn : n < b
    · rw [if_pos hn]
      have hx := hex_dg hb hn
      refine ⟨fun c hc => ?_, ?_⟩
      · obtain rfl : c = hexC n := by simpa using hc
        omega
      · show min ((b : Int) * 0 + dg b (hexC n)) 1114112 = _
        rw [hx]
        omega
    · rw [if_neg hn]
      have hd : n % b < b := Nat.mod_lt _ (by omega)
      have hx := hex_dg hb hd
      obtain ⟨h1, h2⟩ := dig_acc hb f (n / b) (div_lt2 (by omega) (by rw [Nat.mul_comm, ← Nat.pow_succ]; exact h))
      refine ⟨fun c hc => ?_, ?_⟩
      · rcases List.mem_append.1 hc with hc | hc
        · exact h1 c hc
        · obtain rfl : c = hexC (n % b) := by simpa using hc
          omega
      · rw [accW_app, h2]
        show min ((b : Int) * (min ((n / b : Nat) : Int) 1114112) + dg b (hexC (n % b))) 1114112 = _
        rw [hx]
        rcases hb with rfl | rfl <;> omega
theorem zero_acc {b : Nat} (hb : b = 10 ∨ b = 16) : ∀ z, allG b (List.replicate z 48) ∧ accW b (List.replicate z 48) 0 = 0
  | 0 => ⟨fun c hc => by simp at hc, rfl⟩
  | z + 1 => by
    obtain ⟨h1, h2⟩ := zero_acc hb z
    have e : dg b 48 = 0 := by rcases hb with rfl | rfl <;> decide +kernel
    refine ⟨fun c hc => ?_, ?_⟩
    · obtain rfl := List.eq_of_mem_replicate hc
      omega
    · rw [List.replicate_succ]
      show accW b (List.replicate z 48) (min ((b : Int) * 0 + dg b 48) 1114112) = 0
      rw [e, show min ((b : Int) * 0 + 0) 1114112 = 0 by omega]
      exact h2

theorem digZ_run {b n z : Nat} (hb : b = 10 ∨ b = 16) (hn : n ≤ 2097152) {r : List UInt8} (hr : noDig b r) : runW b (digZ b n z ++ r) 0 = (min (n : Int) 1114112, (digZ b n z).length) := by
  obtain ⟨z1, z2⟩ := zero_acc hb z
  obtain ⟨d1, d2⟩ := dig_acc hb 24 n (Nat.lt_of_le_of_lt hn (by decide))
  have ha : allG b (digZ b n z) := fun c hc => (List.mem_append.1 hc).elim (z1 c) (d1 c)
  have he : accW b (digZ b n z) 0 = min (n : Int) 1114112 := by
    unfold digZ
    rw [accW_app, z2]
    exact d2
  rw [runW_app b _ _ _ ha, he, runW_stop _ hr]
  rfl
theorem digZ_len (b n z : Nat) : 0 < (digZ b n z).length ∧ (digZ b n z).length ≤ z + 25 := by
  obtain ⟨h1, h2⟩ := digF_len b n
  have := List.length_pos_iff.2 h2
  unfold digZ
  rw [List.length_append, List.length_replicate]
  omega

theorem number_cap (n : Nat) : numberF (min (n : Int) 1114112) = numberF n := by
  by_cases h : n ≤ 1114112
  · rw [show min (n : Int) 1114112 = n by omega]
  · have e : min (n : Int) 1114112 = 1114112 := by omega
    rw [e, number_n (by omega) (by omega), number_n (by omega) (by omega), sgn_bad (by omega), sgn_bad (by omega)]

theorem tail_dig {b n z ahead : Nat} (hb : b = 10 ∨ b = 16) (hn : n ≤ 2097152) {r : List UInt8} (hr : noDig b r) : tailR b ahead (digZ b n z ++ r) = (numberF n, ahead + (digZ b n z).length + if r.head? = some 59 then 1 else 0) := by
  have hl := (digZ_len b n z).1
  unfold tailR
  rw [digZ_run hb hn hr]
  simp only
  rw [if_neg (by omega), List.drop_left, number_cap]

theorem semi_no (b : Nat) (hb : b = 10 ∨ b = 16) (r : List UInt8) : noDig b (59 :: r) := by
  intro c q h
  obtain ⟨rfl, rfl⟩ := List.cons.inj h
  rcases hb with rfl | rfl <;> decide +kernel

theorem dig_first (n z : Nat) (hn : n ≤ 2097152) : ∃ c q, digZ 10 n z = c :: q ∧ c ≠ 120 ∧ c ≠ 88 := by
  obtain ⟨z1, _⟩ := zero_acc (b := 10) (.inl rfl) z
  obtain ⟨d1, _⟩ := dig_acc (b := 10) (.inl rfl) 24 n (Nat.lt_of_le_of_lt hn (by decide))
  have hl := (digZ_len 10 n z).1
  match h : digZ 10 n z with
  | [] => rw [h] at hl; simp at hl
  | c :: q =>
    have hc : 0 ≤ dg 10 c := by
      have hm : c ∈ digZ 10 n z := by rw [h]; exact List.mem_cons_self
      exact (List.mem_append.1 hm).elim (z1 c) (d1 c)
    refine ⟨c, q, rfl, ?_, ?_⟩ <;> (rintro rfl; exact absurd hc (by decide +kernel))

/-- A reference by a number is read. -/
theorem ent_ten {n z : Nat} (hn : n ≤ 2097152) {r : List UInt8} (hr : noDig 10 r) : entF (38 :: 35 :: (digZ 10 n z ++ r)) = numberF n ++ entF (r.drop (if r.head? = some 59 then 1 else 0)) := by
  have e : refF (35 :: (digZ 10 n z ++ r)) = (numberF n, 1 + (digZ 10 n z).length + if r.head? = some 59 then 1 else 0) := by
    rw [ref_35]
    obtain ⟨c, q, h1, h2, h3⟩ := dig_first n z hn
    rw [h1, List.cons_append, byNum_other h2 h3, ← List.cons_append, ← h1]
    exact tail_dig (b := 10) (.inl rfl) hn hr
  rw [ent_amp, e]
  simp only
  rw [show 1 + (digZ 10 n z).length + (if r.head? = some 59 then 1 else 0) = (digZ 10 n z).length + (if r.head? = some 59 then 1 else 0) + 1 by omega, List.drop_succ_cons, ← List.drop_drop, List.drop_left]
theorem ent_six {n z : Nat} (hn : n ≤ 2097152) {r : List UInt8} (hr : noDig 16 r) : entF (38 :: 35 :: 120 :: (digZ 16 n z ++ r)) = numberF n ++ entF (r.drop (if r.head? = some 59 then 1 else 0)) := by
  have e : refF (35 :: 120 :: (digZ 16 n z ++ r)) = (numberF n, 2 + (digZ 16 n z).length + if r.head? = some 59 then 1 else 0) := tail_dig (b := 16) (.inr rfl) hn hr
  rw [ent_amp, e]
  simp only
  rw [show 2 + (digZ 16 n z).length + (if r.head? = some 59 then 1 else 0) = (digZ 16 n z).length + (if r.head? = some 59 then 1 else 0) + 1 + 1 by omega, List.drop_succ_cons, List.drop_succ_cons, ← List.drop_drop, List.drop_left]

/-! Is there an & in a text? The laws' own loops. -/
theorem amp_cases (l : List UInt8) : (∀ j, j < l.length → l.getD j 0 ≠ 38) ∨ ∃ i, i < l.length ∧ l.getD i 0 = 38 ∧ ∀ j, j < i → l.getD j 0 ≠ 38 := by
  induction l with
  | nil => exact .inl fun j hj => by simp at hj
  | cons c r ih =>
    by_cases hc : c = 38
    · exact .inr ⟨0, by simp, by simpa using hc, fun j hj => by omega⟩
    · rcases ih with h | ⟨i, h1, h2, h3⟩
      · refine .inl fun j hj => ?_
        match j, hj with
        | 0, _ => simpa using hc
        | j + 1, hj => simpa using h j (by simpa using hj)
      · refine .inr ⟨i + 1, by simpa using h1, by simpa using h2, fun j hj => ?_⟩
        match j, hj with
        | 0, _ => simpa using hc
        | j + 1, hj => simpa using h3 j (by omega)
theorem amp_none {l : List UInt8} (h : ∀ j, j < l.length → l.getD j 0 ≠ 38) : ∀ c ∈ l, c ≠ 38 := by
  intro c hc
  obtain ⟨j, hj, rfl⟩ := List.getElem_of_mem hc
  have := h j hj
  simpa [List.getD, hj] using this

/-! The longest name decides. -/
theorem byName_at (l : List UInt8) (k : Nat) (hk : 1 ≤ k) (hv : namedF (l.take k) ≠ []) : ∀ n, k ≤ n → (∀ j, k < j → j ≤ n → namedF (l.take j) = []) → byName l n = if l.getD (k - 1) 0 ≠ 59 ∧ goesOn (l.drop k) = true then ([38], 0) else (namedF (l.take k), k)
  | 0, h, _ => by omega
  | n + 1, h, ha => by
    rw [byName_cons]
    by_cases e : k = n + 1
    · subst e
      rw [if_neg hv, Nat.add_sub_cancel]
    · rw [if_pos (ha (n + 1) (by omega) (Nat.le_refl _))]
      exact byName_at l k hk hv n (by omega) (fun j h1 h2 => ha j h1 (by omega))

theorem getD_last (a b : List UInt8) (h : a ≠ []) : (a ++ b).getD (a.length - 1) 0 = a.getLast h := by
  have := List.length_pos_iff.2 h
  rw [List.getD_eq_getElem?_getD, List.getElem?_append_left (by omega), List.getLast_eq_getElem, List.getElem?_eq_getElem (by omega)]
  rfl
theorem take_more (a b : List UInt8) {j : Nat} (h : a.length < j) (hb : j ≤ (a ++ b).length) : ∃ c q r, b = c :: r ∧ (a ++ b).take j = a ++ c :: q := by
  rw [List.length_append] at hb
  match b, hb with
  | [], hb => simp at hb; omega
  | c :: r, hb =>
    refine ⟨c, r.take (j - a.length - 1), r, rfl, ?_⟩
    rw [List.take_append, List.take_of_length_le (by omega)]
    obtain ⟨m, hm⟩ : ∃ m, j - a.length = m + 1 := ⟨j - a.length - 1, by omega⟩
    rw [hm]
    rfl

/-- A name is read, whatever follows, if it ends in ;. -/
theorem ref_semi {m : List UInt8} (b : List UInt8) (hv : namedF (m ++ [59]) ≠ []) : refF ((m ++ [59]) ++ b) = (namedF (m ++ [59]), (m ++ [59]).length) := by
  obtain ⟨h1, h2, h3⟩ := named_len hv
  have hp := List.length_pos_iff.2 h1
  have ht : ((m ++ [59]) ++ b).take (m ++ [59]).length = m ++ [59] := List.take_left
  have hnum : preB [35] ((m ++ [59]) ++ b) = false := by
    cases h : preB [35] ((m ++ [59]) ++ b) with
    | false => rfl
    | true =>
      obtain ⟨r, hr⟩ := preB_iff.1 h
      cases hm : m with
      | nil => rw [hm] at hv; exact absurd (named_head (c := 59) (r := []) (by decide)) hv
      | cons c q =>
        rw [hm] at hr hv
        obtain ⟨hc, _⟩ := List.cons.inj hr
        rw [List.cons_append] at hv
        exact absurd (named_head (by rw [hc]; decide)) hv
  have hlen : ((m ++ [59]) ++ b).length = (m ++ [59]).length + b.length := List.length_append
  rw [ref_other hnum, byName_at _ (m ++ [59]).length hp (by rw [ht]; exact hv) _ (by omega) ?_]
  · rw [if_neg, ht]
    rintro ⟨h, _⟩
    apply h
    rw [getD_last _ _ h1]
    simp
  · intro j h4 h5
    obtain ⟨c, q, r, hb, e⟩ := take_more (m ++ [59]) b h4 (by omega)
    rw [e, show (m ++ [59]) ++ c :: q = m ++ 59 :: (c :: q) by simp]
    exact named_mid (by decide) (by simp)

/-- A name without ;, ahead of a sign that is no letter and no ;. -/
theorem ref_bare {l b : List UInt8} (he : endC l = false) (hv : namedF l ≠ []) (hb : ∀ c r, b = c :: r → isL c = false ∧ c ≠ 59) : refF (l ++ b) = if goesOn b = true then ([38], 0) else (namedF l, l.length) := by
  obtain ⟨h1, h2, h3⟩ := named_len hv
  have hp := List.length_pos_iff.2 h1
  have ht : (l ++ b).take l.length = l := List.take_left
  have hn : Nm l (namedF l) := by
    rcases named_some hv with ⟨n, _⟩ | ⟨m, rfl, _⟩
    · exact n
    · rw [endC_snoc] at he; cases he
  have hnum : preB [35] (l ++ b) = false := by
    cases h : preB [35] (l ++ b) with
    | false => rfl
    | true =>
      obtain ⟨r, hr⟩ := preB_iff.1 h
      cases hm : l with
      | nil => exact absurd hm h1
      | cons c q =>
        rw [hm] at hr
        obtain ⟨hc, _⟩ := List.cons.inj hr
        have := hn.let_ c (by rw [hm]; exact List.mem_cons_self)
        rw [hc] at this
        exact absurd this (by decide)
  have hlen : (l ++ b).length = l.length + b.length := List.length_append
  rw [ref_other hnum, byName_at _ l.length hp (by rw [ht]; exact hv) _ (by omega) ?_]
  · rw [ht, List.drop_left, getD_last _ _ h1]
    have hl := (isL_ne (hn.let_ _ (List.getLast_mem h1))).1
    by_cases hg : goesOn b = true
    · rw [if_pos ⟨hl, hg⟩, if_pos hg]
    · rw [if_neg (fun h => hg h.2), if_neg hg]
  · intro j h4 h5
    obtain ⟨c, q, r, hbb, e⟩ := take_more l b h4 (by omega)
    obtain ⟨k1, k2⟩ := hb c r hbb
    rw [e]
    cases q with
    | nil => exact named_last k1 k2
    | cons x y => exact named_mid k1 (by simp)

theorem ref_none {c : UInt8} (r : List UInt8) (h : isL c = false) (h35 : c ≠ 35) : refF (c :: r) = ([38], 0) := by
  rw [ref_other (by rw [preB_one]; exact decide_eq_false h35)]
  have key : ∀ n, byName (c :: r) n = ([38], 0) := by
    intro n
    induction n with
    | zero => rfl
    | succ n ih => rw [byName_cons, List.take_succ_cons, named_head h, if_pos rfl]; exact ih
  exact key _

theorem ent_ref {l v : List UInt8} {k : Nat} (h : refF l = (v, k)) : entF (38 :: l) = v ++ entF (l.drop k) := by rw [ent_amp, h]

theorem lne {l : List UInt8} (h : (!(l == [])) = true) : ¬ l = [] := by simpa using h
theorem notb {p : Bool} (h : (!p) = true) : p = false := by cases p <;> simp_all
theorem notb2 {p : Bool} (h : (!p) = false) : p = true := by cases p <;> simp_all

end Go.Proofs.YtfnappdgiomiiaaDoor
