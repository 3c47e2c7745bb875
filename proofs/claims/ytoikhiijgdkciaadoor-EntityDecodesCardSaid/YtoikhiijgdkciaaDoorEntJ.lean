/- The law of references by numbers. -/
import Derived.Test.YtoikhiijgdkciaaDoorEntI
namespace Go.Proofs.YtoikhiijgdkciaaDoor
open Go.RowKit Ent
set_option linter.unusedVariables false
set_option linter.unusedSimpArgs false

/-! Digits are read. -/
def accW (b : Int) (a : List UInt8) (n : Int) : Int := a.foldl (fun n c => min (b * n + dg b c) 1114112) n
def allG (b : Int) (a : List UInt8) : Prop := ∀ c ∈ a, 0 ≤ dg b c

theorem accW_app (b : Int) (a r : List UInt8) (n : Int) : accW b (a ++ r) n = accW b r (accW b a n) := by unfold accW; rw [List.foldl_append]
theorem runW_app (b : Int) : ∀ (a r : List UInt8) (n : Int), allG b a → runW b (a ++ r) n = ((runW b r (accW b a n)).1, a.length + (runW b r (accW b a n)).2)
  | [], r, n, _ => by simp [accW]
  | c :: a, r, n, h => by
    have hc := h c List.mem_cons_self
    rw [List.cons_append, runW_cons, if_neg (by omega), runW_app b a r _ (fun d hd => h d (List.mem_cons_of_mem _ hd))]
    have e : accW b (c :: a) n = accW b a (min (b * n + dg b c) 1114112) := rfl
    rw [e, List.length_cons]
    simp only [Prod.mk.injEq, true_and]
    omega
/-- Does no digit stand first? -/
def noDig (b : Int) (r : List UInt8) : Prop := ∀ c q, r = c :: q → dg b c < 0
theorem runW_stop {b : Int} {r : List UInt8} (n : Int) (h : noDig b r) : runW b r n = (n, 0) := by
  cases r with
  | nil => rfl
  | cons c q => rw [runW_cons, if_pos (h c q rfl)]

theorem hex_dg10 {d : Nat} (h : d < 10) : dg 10 (hexC d) = d := by
  have k : ∀ y : Fin 10, dg 10 (hexC y.val) = (y.val : Nat) := by decide +kernel
  exact k ⟨d, h⟩
theorem hex_dg16 {d : Nat} (h : d < 16) : dg 16 (hexC d) = d := by
  have k : ∀ y : Fin 16, dg 16 (hexC y.val) = (y.val : Nat) := by decide +kernel
  exact k ⟨d, h⟩
theorem hex_dg {b d : Nat} (hb : b = 10 ∨ b = 16) (h : d < b) : dg b (hexC d) = d := by
  rcases hb with rfl | rfl
  · exact hex_dg10 h
  · exact hex_dg16 h

theorem dig_acc {b : Nat} (hb : b = 10 ∨ b = 16) : ∀ (f n : Nat), n < 2 ^ (f + 1) → allG b (digB b f n) ∧ accW b (digB b f n) 0 = min (n : Int) 1114112
  | 0, n, h => by
    have hn : n < b := by omega
    have hd : n % b < b := Nat.mod_lt _ (by omega)
    have hx := hex_dg hb hd
    refine ⟨fun c hc => ?_, ?_⟩
    · obtain rfl : c = hexC (n % b) := by simpa [digB] using hc
      omega
    · show min ((b : Int) * 0 + dg b (hexC (n % b))) 1114112 = _
      rw [hx, Nat.mod_eq_of_lt hn]
      omega
  | f + 1, n, h => by
    rw [digB_succ]
    by_cases hn : n < b
    · rw [if_pos hn]
      have hx := hex_dg hb hn
      refine ⟨fun c hc => ?_, ?_⟩
      · obtain rfl : c = hexC n := by simpa using hc
        omega
      · show min ((b : Int) * 0 + dg b (hexC n)) 1114112 = _
        rw [hx]
        omega
    · rw [if_neg hn]
      have hd : n % b < b := Nat.mod_lt _ (by omega)
      have hx := hex_dg hb hd
      obtain ⟨h1, h2⟩ := dig_acc hb f (n / b) (div_lt2 (by omega) (by rw [Nat.mul_comm, ← Nat.pow_succ]; exact h))
      refine ⟨fun c hc => ?_, ?_⟩
      · rcases List.mem_append.1 hc with hc | hc
        · exact h1 c hc
        · obtain rfl : c = hexC (n % b) := by simpa using hc
          omega
      · rw [accW_app, h2]
        show min ((b : Int) * (min ((n / b : Nat) : Int) 1114112) + dg b (hexC (n % b))) 1114112 = _
        rw [hx]
        rcases hb with rfl | rfl <;> omega
theorem zero_acc {b : Nat} (hb : b = 10 ∨ b = 16) : ∀ z, allG b (List.replicate z 48) ∧ accW b (List.replicate z 48) 0 = 0
  | 0 => ⟨fun c hc => by simp at hc, rfl⟩
  | z + 1 => by
    obtain ⟨h1, h2⟩ := zero_acc hb z
    have e : dg b 48 = 0 := by rcases hb with rfl | rfl <;> decide +kernel
    refine ⟨fun c hc => ?_, ?_⟩
    · obtain rfl := List.eq_of_mem_replicate hc
      omega
    · rw [List.replicate_succ]
      show accW b (List.replicate z 48) (min ((b : Int) * 0 + dg b 48) 1114112) = 0
      rw [e, show min ((b : Int) * 0 + 0) 1114112 = 0 by omega]
      exact h2

theorem digZ_run {b n z : Nat} (hb : b = 10 ∨ b = 16) (hn : n ≤ 2097152) {r : List UInt8} (hr : noDig b r) : runW b (digZ b n z ++ r) 0 = (min (n : Int) 1114112, (digZ b n z).length) := by
  obtain ⟨z1, z2⟩ := zero_acc hb z
  obtain ⟨d1, d2⟩ := dig_acc hb 24 n (Nat.lt_of_le_of_lt hn (by decide))
  have ha : allG b (digZ b n z) := fun c hc => (List.mem_append.1 hc).elim (z1 c) (d1 c)
  have he : accW b (digZ b n z) 0 = min (n : Int) 1114112 := by
    unfold digZ
    rw [accW_app, z2]
    exact d2
  rw [runW_app b _ _ _ ha, he, runW_stop _ hr]
  rfl
theorem digZ_len (b n z : Nat) : 0 < (digZ b n z).length ∧ (digZ b n z).length ≤ z + 25 := by
  obtain ⟨h1, h2⟩ := digF_len b n
  have := List.length_pos_iff.2 h2
  unfold digZ
  rw [List.length_append, List.length_replicate]
  omega

theorem number_cap (n : Nat) : numberF (min (n : Int) 1114112) = numberF n := by
  by_cases h : n ≤ 1114112
  · rw [show min (n : Int) 1114112 = n by omega]
  · have e : min (n : Int) 1114112 = 1114112 := by omega
    rw [e, number_n (by omega) (by omega), number_n (by omega) (by omega), sgn_bad (by omega), sgn_bad (by omega)]

theorem tail_dig {b n z ahead : Nat} (hb : b = 10 ∨ b = 16) (hn : n ≤ 2097152) {r : List UInt8} (hr : noDig b r) : tailR b ahead (digZ b n z ++ r) = (numberF n, ahead + (digZ b n z).length + if r.head? = some 59 then 1 else 0) := by
  have hl := (digZ_len b n z).1
  unfold tailR
  rw [digZ_run hb hn hr]
  simp only
  rw [if_neg (by omega), List.drop_left, number_cap]

theorem semi_no (b : Nat) (hb : b = 10 ∨ b = 16) (r : List UInt8) : noDig b (59 :: r) := by
  intro c q h
  obtain ⟨rfl, rfl⟩ := List.cons.inj h
  rcases hb with rfl | rfl <;> decide +kernel

theorem dig_first (n z : Nat) (hn : n ≤ 2097152) : ∃ c q, digZ 10 n z = c :: q ∧ c ≠ 120 ∧ c ≠ 88 := by
  obtain ⟨z1, _⟩ := zero_acc (b := 10) (.inl rfl) z
  obtain ⟨d1, _⟩ := dig_acc (b := 10) (.inl rfl) 24 n (Nat.lt_of_le_of_lt hn (by decide))
  have hl := (digZ_len 10 n z).1
  match h : digZ 10 n z with
  | [] => rw [h] at hl; simp at hl
  | c :: q =>
    have hc : 0 ≤ dg 10 c := by
      have hm : c ∈ digZ 10 n z := by rw [h]; exact List.mem_cons_self
      exact (List.mem_append.1 hm).elim (z1 c) (d1 c)
    refine ⟨c, q, rfl, ?_, ?_⟩ <;> (rintro rfl; exact absurd hc (by decide +kernel))

/-- A reference by a number is read. -/
theorem ent_ten {n z : Nat} (hn : n ≤ 2097152) {r : List UInt8} (hr : noDig 10 r) : entF (38 :: 35 :: (digZ 10 n z ++ r)) = numberF n ++ entF (r.drop (if r.head? = some 59 then 1 else 0)) := by
  have e : refF (35 :: (digZ 10 n z ++ r)) = (numberF n, 1 + (digZ 10 n z).length + if r.head? = some 59 then 1 else 0) := by
    rw [ref_35]
    obtain ⟨c, q, h1, h2, h3⟩ := dig_first n z hn
    rw [h1, List.cons_append, byNum_other h2 h3, ← List.cons_append, ← h1]
    exact tail_dig (b := 10) (.inl rfl) hn hr
  rw [ent_amp, e]
  simp only
  rw [show 1 + (digZ 10 n z).length + (if r.head? = some 59 then 1 else 0) = (digZ 10 n z).length + (if r.head? = some 59 then 1 else 0) + 1 by omega, List.drop_succ_cons, ← List.drop_drop, List.drop_left]
theorem ent_six {n z : Nat} (hn : n ≤ 2097152) {r : List UInt8} (hr : noDig 16 r) : entF (38 :: 35 :: 120 :: (digZ 16 n z ++ r)) = numberF n ++ entF (r.drop (if r.head? = some 59 then 1 else 0)) := by
  have e : refF (35 :: 120 :: (digZ 16 n z ++ r)) = (numberF n, 2 + (digZ 16 n z).length + if r.head? = some 59 then 1 else 0) := tail_dig (b := 16) (.inr rfl) hn hr
  rw [ent_amp, e]
  simp only
  rw [show 2 + (digZ 16 n z).length + (if r.head? = some 59 then 1 else 0) = (digZ 16 n z).length + (if r.head? = some 59 then 1 else 0) + 1 + 1 by omega, List.drop_succ_cons, List.drop_succ_cons, ← List.drop_drop, List.drop_left]

/-! Is there an & in a text? The laws' own loops. -/
theorem amp_cases (l : List UInt8) : (∀ j, j < l.length → l.getD j 0 ≠ 38) ∨ ∃ i, i < l.length ∧ l.getD i 0 = 38 ∧ ∀ j, j < i → l.getD j 0 ≠ 38 := by
  induction l with
  | nil => exact .inl fun j hj => by simp at hj
  | cons c r ih =>
    by_cases hc : c = 38
    · exact .inr ⟨0, by simp, by simpa using hc, fun j hj => by omega⟩
    · rcases ih with h | ⟨i, h1, h2, h3⟩
      · refine .inl fun j hj => ?_
        match j, hj with
        | 0, _ => simpa using hc
        | j + 1, hj => simpa using h j (by simpa using hj)
      · refine .inr ⟨i + 1, by simpa using h1, by simpa using h2, fun j hj => ?_⟩
        match j, hj with
        | 0, _ => simpa using hc
        | j + 1, hj => simpa using h3 j (by omega)
theorem amp_none {l : List UInt8} (h : ∀ j, j < l.length → l.getD j 0 ≠ 38) : ∀ c ∈ l, c ≠ 38 := by
  intro c hc
  obtain ⟨j, hj, rfl⟩ := List.getElem_of_mem hc
  have := h j hj
  simpa [List.getD, hj] using this

def amS (c z : Int) (a b : List UInt8) (i : Nat) : St := ⟨frame 134 [(0, .c (.int .i64 c)), (1, .c (.int .i64 z)), (2, .c (str a)), (3, .c (str b)), (9, .c (.bool true)), (10, .c (.int .i64 i))], []⟩
def amR : St := ⟨frame 134 [(8, .c (.bool true))], []⟩
def apS (a b : List UInt8) (x : Int) (i : Nat) : St := ⟨frame 75 [(0, .c (str a)), (1, .c (str b)), (2, .c (.int .u8 x)), (7, .c (.bool true)), (8, .c (.int .i64 i))], []⟩
def apR : St := ⟨frame 75 [(6, .c (.bool true))], []⟩

theorem am_1 (c z : Int) (a b : List UInt8) (i : Nat) : roundOut (⟨[], [8], []⟩) (aCode Tryd.prog cl0 ⟨true, bs [(44, true), (50, true)] ++ ([])⟩ (lpBy ([])) 60 (lbody Tryd.prog 5 5) (amS c z a b i)) = some (.ret, amR, [((decide ((↑i : Int) < (↑a.length : Int)) : Bool)) = (true),
 (((0 : Int) : Int) ≤ ((↑i : Int))),
 (((↑i : Int) : Int) < ((↑a.length : Int))),
 (((↑(a.getD i (0 : UInt8)).toNat : Int) == (38 : Int) : Bool)) = (true)]) := by kernel_rfl

theorem am_2 (c z : Int) (a b : List UInt8) (i : Nat) : roundOut (⟨[], [0, 1, 2, 3, 9, 10], []⟩) (aCode Tryd.prog cl0 ⟨true, bs [(44, true), (50, false)] ++ ([])⟩ (lpBy ([])) 60 (lbody Tryd.prog 5 5) (amS c z a b i)) = some (.normal, amS c z a b (i + 1), [((decide ((↑i : Int) < (↑a.length : Int)) : Bool)) = (true),
 (((0 : Int) : Int) ≤ ((↑i : Int))),
 (((↑i : Int) : Int) < ((↑a.length : Int))),
 (((↑(a.getD i (0 : UInt8)).toNat : Int) == (38 : Int) : Bool)) = (false),
 ((IntKind.i64.min : Int) ≤ ((↑i : Int) + (1 : Int))),
 (((↑i : Int) + (1 : Int) : Int) ≤ (IntKind.i64.max))]) := by kernel_rfl

theorem am_3 (c z : Int) (a b : List UInt8) (i : Nat) : roundOut (⟨[], [0, 1, 2, 3, 9, 10], []⟩) (aCode Tryd.prog cl0 ⟨true, bs [(44, false)] ++ ([])⟩ (lpBy ([])) 60 (lbody Tryd.prog 5 5) (amS c z a b i)) = some (.exit 0, amS c z a b i, [((decide ((↑i : Int) < (↑a.length : Int)) : Bool)) = (false)]) := by kernel_rfl

theorem am_go (c z : Int) (a b : List UInt8) (i : Nat) (hl : a.length ≤ 1000000) (h : i < a.length) (hc : a.getD i 0 ≠ 38) : Round Ext0 Tryd.prog cl0 (lbody Tryd.prog 5 5) (amS c z a b i) .normal (amS c z a b (i + 1)) := by
  refine ⟨_, _, _, _, _, lpBy_nil, by decide, am_2 c z a b i, ?_⟩
  have hn := u8_ne (k := 38) (by decide) hc
  simp only [allP, sb_mk, and_true, decide_eq_true_eq, i64_min, i64_max, Int.toNat_natCast, beq_eq_false_iff_ne, ne_eq]
  repeat' apply And.intro
  all_goals first | omega | exact hn
theorem am_none (c z : Int) (a b : List UInt8) (hl : a.length ≤ 1000000) (h : ∀ j, j < a.length → a.getD j 0 ≠ 38) : Tri Ext0 Tryd.prog (.loop (lbody Tryd.prog 5 5)) (amS c z a b 0) (.exit 0) (amS c z a b a.length) := by
  refine loop_up mixed cl0_ok (amS c z a b) a.length (by simp) (fun i hi => am_go c z a b i hl hi (h i hi)) ?_ 0 (Nat.zero_le _)
  refine ⟨_, _, _, _, _, lpBy_nil, by decide, am_3 c z a b a.length, ?_⟩
  simp only [allP, sb_mk, and_true, decide_eq_false_iff_not]
  omega
theorem am_some (c z : Int) (a b : List UInt8) (hl : a.length ≤ 1000000) (i : Nat) (hi : i < a.length) (hc : a.getD i 0 = 38) (h : ∀ j, j < i → a.getD j 0 ≠ 38) : Tri Ext0 Tryd.prog (.loop (lbody Tryd.prog 5 5)) (amS c z a b 0) .ret amR := by
  refine loop_up mixed cl0_ok (amS c z a b) i (by simp) (fun j hj => am_go c z a b j hl (by omega) (h j hj)) ?_ 0 (Nat.zero_le _)
  refine ⟨_, _, _, _, _, lpBy_nil, by decide, am_1 c z a b i, ?_⟩
  have hn : (((a.getD i 0).toNat : Nat) : Int) = 38 := by rw [hc]; rfl
  simp only [allP, sb_mk, and_true, decide_eq_true_eq, i64_min, i64_max, Int.toNat_natCast, beq_iff_eq]
  repeat' apply And.intro
  all_goals first | omega | exact hn


theorem ap_1 (a b : List UInt8) (x : Int) (i : Nat) : roundOut (⟨[], [6], []⟩) (aCode Tryd.prog cl0 ⟨true, bs [(23, true), (29, true)] ++ ([])⟩ (lpBy ([])) 60 (lbody Tryd.prog 7 5) (apS a b x i)) = some (.ret, apR, [((decide ((↑i : Int) < (↑a.length : Int)) : Bool)) = (true),
 (((0 : Int) : Int) ≤ ((↑i : Int))),
 (((↑i : Int) : Int) < ((↑a.length : Int))),
 (((↑(a.getD i (0 : UInt8)).toNat : Int) == (38 : Int) : Bool)) = (true)]) := by kernel_rfl

theorem ap_2 (a b : List UInt8) (x : Int) (i : Nat) : roundOut (⟨[], [0, 1, 2, 7, 8], []⟩) (aCode Tryd.prog cl0 ⟨true, bs [(23, true), (29, false)] ++ ([])⟩ (lpBy ([])) 60 (lbody Tryd.prog 7 5) (apS a b x i)) = some (.normal, apS a b x (i + 1), [((decide ((↑i : Int) < (↑a.length : Int)) : Bool)) = (true),
 (((0 : Int) : Int) ≤ ((↑i : Int))),
 (((↑i : Int) : Int) < ((↑a.length : Int))),
 (((↑(a.getD i (0 : UInt8)).toNat : Int) == (38 : Int) : Bool)) = (false),
 ((IntKind.i64.min : Int) ≤ ((↑i : Int) + (1 : Int))),
 (((↑i : Int) + (1 : Int) : Int) ≤ (IntKind.i64.max))]) := by kernel_rfl

theorem ap_3 (a b : List UInt8) (x : Int) (i : Nat) : roundOut (⟨[], [0, 1, 2, 7, 8], []⟩) (aCode Tryd.prog cl0 ⟨true, bs [(23, false)] ++ ([])⟩ (lpBy ([])) 60 (lbody Tryd.prog 7 5) (apS a b x i)) = some (.exit 0, apS a b x i, [((decide ((↑i : Int) < (↑a.length : Int)) : Bool)) = (false)]) := by kernel_rfl

theorem ap_go (a b : List UInt8) (x : Int) (i : Nat) (hl : a.length ≤ 1000000) (h : i < a.length) (hc : a.getD i 0 ≠ 38) : Round Ext0 Tryd.prog cl0 (lbody Tryd.prog 7 5) (apS a b x i) .normal (apS a b x (i + 1)) := by
  refine ⟨_, _, _, _, _, lpBy_nil, by decide, ap_2 a b x i, ?_⟩
  have hn := u8_ne (k := 38) (by decide) hc
  simp only [allP, sb_mk, and_true, decide_eq_true_eq, i64_min, i64_max, Int.toNat_natCast, beq_eq_false_iff_ne, ne_eq]
  repeat' apply And.intro
  all_goals first | omega | exact hn
theorem ap_none (a b : List UInt8) (x : Int) (hl : a.length ≤ 1000000) (h : ∀ j, j < a.length → a.getD j 0 ≠ 38) : Tri Ext0 Tryd.prog (.loop (lbody Tryd.prog 7 5)) (apS a b x 0) (.exit 0) (apS a b x a.length) := by
  refine loop_up mixed cl0_ok (apS a b x) a.length (by simp) (fun i hi => ap_go a b x i hl hi (h i hi)) ?_ 0 (Nat.zero_le _)
  refine ⟨_, _, _, _, _, lpBy_nil, by decide, ap_3 a b x a.length, ?_⟩
  simp only [allP, sb_mk, and_true, decide_eq_false_iff_not]
  omega
theorem ap_some (a b : List UInt8) (x : Int) (hl : a.length ≤ 1000000) (i : Nat) (hi : i < a.length) (hc : a.getD i 0 = 38) (h : ∀ j, j < i → a.getD j 0 ≠ 38) : Tri Ext0 Tryd.prog (.loop (lbody Tryd.prog 7 5)) (apS a b x 0) .ret apR := by
  refine loop_up mixed cl0_ok (apS a b x) i (by simp) (fun j hj => ap_go a b x j hl (by omega) (h j hj)) ?_ 0 (Nat.zero_le _)
  refine ⟨_, _, _, _, _, lpBy_nil, by decide, ap_1 a b x i, ?_⟩
  have hn : (((a.getD i 0).toNat : Nat) : Int) = 38 := by rw [hc]; rfl
  simp only [allP, sb_mk, and_true, decide_eq_true_eq, i64_min, i64_max, Int.toNat_natCast, beq_iff_eq]
  repeat' apply And.intro
  all_goals first | omega | exact hn

end Go.Proofs.YtoikhiijgdkciaaDoor
