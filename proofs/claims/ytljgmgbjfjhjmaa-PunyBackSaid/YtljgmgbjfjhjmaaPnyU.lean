/- Signs as letters: the program's numbers, place by place, are the document's. -/
import Derived.Test.YtljgmgbjfjhjmaaPnyT
namespace Go.Proofs.Ytljgmgbjfjhjmaa
open Go.RowKit Pny Srt
set_option linter.unusedVariables false
set_option linter.unusedSimpArgs false

/-- The signs at the places that P names. -/
def sel (N : List Nat) (P : Nat → Bool) : List Nat := ((List.range N.length).filter P).map fun j => N.getD j 0

theorem range_map (N : List Nat) (i : Nat) (h : i ≤ N.length) : (List.range i).map (fun j => N.getD j 0) = N.take i := by
  induction i with
  | zero => rfl
  | succ i ih => rw [List.range_succ, List.map_append, ih (by omega), take_succ_getD N i 0 (by omega)]; rfl

theorem sel_all (N : List Nat) (P : Nat → Bool) (h : ∀ j, j < N.length → P j = true) : sel N P = N := by
  unfold sel
  rw [List.filter_eq_self.2 fun j hj => h j (List.mem_range.1 hj), range_map N _ (Nat.le_refl _), List.take_length]

theorem sel_bas (N : List Nat) : sel N (fun j => decide (N.getD j 0 < 128) || ([] : List Nat).contains j) = bas N := by
  have h : bas N = ((List.range N.length).map fun j => N.getD j 0).filter fun z => decide (z < 128) := by
    rw [range_map N _ (Nat.le_refl _), List.take_length]; rfl
  rw [h, List.filter_map]
  unfold sel
  congr 1
  refine List.filter_congr fun j _ => ?_
  simp

theorem range_cut {k i : Nat} (h : i < k) : ∃ T : List Nat, List.range k = List.range i ++ i :: T ∧ ∀ j ∈ T, i < j := by
  obtain ⟨t, rfl⟩ : ∃ t, k = i + (t + 1) := ⟨k - i - 1, by omega⟩
  refine ⟨(List.range t).map fun z => i + (z + 1), ?_, fun j hj => ?_⟩
  · rw [List.range_add, List.range_succ_eq_map, List.map_cons, List.map_map]
    rfl
  · obtain ⟨z, _, rfl⟩ := List.mem_map.1 hj
    omega

theorem sel_put (N : List Nat) (P Q : Nat → Bool) {i : Nat} (hi : i < N.length) (hP : P i = false) (hQ : Q i = true) (h : ∀ j, j ≠ i → Q j = P j) :
    sel N Q = (sel N P).take ((List.range i).filter P).length ++ N.getD i 0 :: (sel N P).drop ((List.range i).filter P).length := by
  obtain ⟨T, hT, hlt⟩ := range_cut hi
  have e1 : (List.range i).filter Q = (List.range i).filter P := List.filter_congr fun j hj => h j (by have := List.mem_range.1 hj; omega)
  have e2 : T.filter Q = T.filter P := List.filter_congr fun j hj => h j (by have := hlt j hj; omega)
  have eQ : sel N Q = ((List.range i).filter P).map (fun j => N.getD j 0) ++ N.getD i 0 :: (T.filter P).map fun j => N.getD j 0 := by
    unfold sel
    rw [hT, List.filter_append, List.filter_cons_of_pos hQ, e1, e2, List.map_append, List.map_cons]
  have eP : sel N P = ((List.range i).filter P).map (fun j => N.getD j 0) ++ (T.filter P).map fun j => N.getD j 0 := by
    unfold sel
    rw [hT, List.filter_append, List.filter_cons_of_neg (by rw [hP]; simp), List.map_append]
  rw [eQ, eP, List.take_left' (by simp), List.drop_left' (by simp)]

theorem ahN_is (N : List Nat) (P : Nat → Bool) {i : Nat} (hi : i < N.length) (h : ∀ j, j < i → P j = decide (N.getD j 0 ≤ N.getD i 0)) : ((List.range i).filter P).length = ahN N i := by
  unfold ahN
  rw [← range_map N i (by omega), List.filter_map, List.length_map]
  congr 1
  exact List.filter_congr fun j hj => h j (List.mem_range.1 hj)

/-- The number that is told for a place. -/
def dN (N : List Nat) (x : Stt) (i : Nat) : Nat := (N.getD i 0 - x.c) * (x.out.length + 1) + ahN N i - x.p
def puD (N : List Nat) : Stt → List Nat → List Nat
  | _, [] => []
  | x, i :: r => dN N x i :: puD N (stD x (dN N x i)) r
/-- All goes well from here on. -/
def Good (N : List Nat) : Stt → List Nat → Prop
  | _, [] => True
  | x, i :: r => (i < N.length ∧ x.c ≤ N.getD i 0 ∧ ahN N i ≤ x.out.length ∧ x.p ≤ (N.getD i 0 - x.c) * (x.out.length + 1) + ahN N i ∧ okD x (dN N x i) = true) ∧ Good N (stD x (dN N x i)) r

theorem stD_dN {N : List Nat} {x : Stt} {i : Nat} (h1 : x.c ≤ N.getD i 0) (h2 : ahN N i ≤ x.out.length) (h3 : x.p ≤ (N.getD i 0 - x.c) * (x.out.length + 1) + ahN N i) :
    (x.p + dN N x i) / (x.out.length + 1) = N.getD i 0 - x.c ∧ (x.p + dN N x i) % (x.out.length + 1) = ahN N i ∧ (stD x (dN N x i)).c = N.getD i 0 ∧ (stD x (dN N x i)).p = ahN N i + 1 ∧ (stD x (dN N x i)).out = x.out.take (ahN N i) ++ N.getD i 0 :: x.out.drop (ahN N i) := by
  have e : x.p + dN N x i = ahN N i + (x.out.length + 1) * (N.getD i 0 - x.c) := by
    unfold dN
    rw [Nat.mul_comm (x.out.length + 1)]
    omega
  have k1 : (x.p + dN N x i) / (x.out.length + 1) = N.getD i 0 - x.c := by
    rw [e, Nat.add_mul_div_left _ _ (by omega), Nat.div_eq_of_lt (by omega), Nat.zero_add]
  have k2 : (x.p + dN N x i) % (x.out.length + 1) = ahN N i := by
    rw [e, Nat.add_mul_mod_self_left, Nat.mod_eq_of_lt (by omega)]
  have k3 : x.c + (x.p + dN N x i) / (x.out.length + 1) = N.getD i 0 := by rw [k1]; omega
  refine ⟨k1, k2, k3, ?_, ?_⟩
  · show (x.p + dN N x i) % (x.out.length + 1) + 1 = _
    rw [k2]
  · show x.out.take ((x.p + dN N x i) % (x.out.length + 1)) ++ (x.c + (x.p + dN N x i) / (x.out.length + 1)) :: x.out.drop ((x.p + dN N x i) % (x.out.length + 1)) = _
    rw [k2, k3]

def PA (N : List Nat) (a : List Nat) (j : Nat) : Bool := decide (N.getD j 0 < 128) || a.contains j
def Ord (N : List Nat) (x y : Nat) : Prop := N.getD x 0 < N.getD y 0 ∨ (N.getD x 0 = N.getD y 0 ∧ x ≤ y)

theorem ahN_mono {N : List Nat} {i0 i : Nat} (h : i0 < i) (he : N.getD i0 0 = N.getD i 0) (hi : i ≤ N.length) : ahN N i0 + 1 ≤ ahN N i := by
  unfold ahN
  rw [← he]
  have e1 : N.take i = N.take (i0 + 1) ++ (N.take i).drop (i0 + 1) := by
    have := List.take_append_drop (i0 + 1) (N.take i)
    rw [List.take_take, Nat.min_eq_left (by omega)] at this
    exact this.symm
  rw [e1, List.filter_append, List.length_append, take_succ_getD N i0 0 (by omega), List.filter_append, List.length_append, List.filter_cons_of_pos (by simp)]
  simp only [List.filter_nil, List.length_singleton]
  omega

theorem pu_run (N : List Nat) (hl : N.length ≤ 255) (hok : ∀ z ∈ N, okC z = true) (o : List Nat) (hS : o.Pairwise (Ord N)) (hM : ∀ j, j ∈ o ↔ j < N.length ∧ 128 ≤ N.getD j 0) (hN : o.Nodup) :
    ∀ (r a : List Nat) (x : Stt), o = a ++ r → x.out = sel N (PA N a) → ((a = [] ∧ x.c = 128 ∧ x.p = 0) ∨ ∃ i0, i0 ∈ a ∧ (∀ j ∈ a, j ≠ i0 → Ord N j i0) ∧ x.c = N.getD i0 0 ∧ x.p = ahN N i0 + 1) → Good N x r ∧ ∃ y, runD x (puD N x r) = some y ∧ y.out = N
  | [], a, x, ho, hx, hc => by
    refine ⟨trivial, x, rfl, ?_⟩
    rw [hx]
    refine sel_all N _ fun j hj => ?_
    rw [List.append_nil] at ho
    unfold PA
    by_cases h : N.getD j 0 < 128
    · rw [decide_eq_true h, Bool.true_or]
    · rw [decide_eq_false h, Bool.false_or, ← ho]
      exact List.contains_iff_mem.2 ((hM j).2 ⟨hj, by omega⟩)
  | i :: r, a, x, ho, hx, hc => by
    have hio : i ∈ o := by rw [ho]; simp
    obtain ⟨hi, h128⟩ := (hM i).1 hio
    have hp := hS
    rw [ho, List.pairwise_append, List.pairwise_cons] at hp
    obtain ⟨_, ⟨hir, _⟩, har⟩ := hp
    have hnd := hN
    rw [ho, List.nodup_append] at hnd
    obtain ⟨_, hn2, hn3⟩ := hnd
    have hia : i ∉ a := fun h => hn3 i h i (by simp) rfl
    have hPi : PA N a i = false := by
      unfold PA
      rw [decide_eq_false (by omega), Bool.false_or]
      cases h : a.contains i with
      | false => rfl
      | true => exact absurd (List.contains_iff_mem.1 h) hia
    have hlow : ∀ j, j < i → PA N a j = decide (N.getD j 0 ≤ N.getD i 0) := fun j hj => by
      rw [Bool.eq_iff_iff, decide_eq_true_eq]
      unfold PA
      rw [Bool.or_eq_true, decide_eq_true_eq, List.contains_iff_mem]
      constructor
      · rintro (h | h)
        · omega
        · have := har j h i (by simp)
          unfold Ord at this
          omega
      · intro h
        by_cases hlt : N.getD j 0 < 128
        · exact .inl hlt
        · have hjo : j ∈ o := (hM j).2 ⟨by omega, by omega⟩
          rw [ho, List.mem_append, List.mem_cons] at hjo
          rcases hjo with h1 | h1 | h1
          · exact .inr h1
          · omega
          · have := hir j h1
            unfold Ord at this
            omega
    have hcnt := ahN_is N (PA N a) hi hlow
    have hsel : sel N (PA N (a ++ [i])) = x.out.take (ahN N i) ++ N.getD i 0 :: x.out.drop (ahN N i) := by
      have := sel_put N (PA N a) (PA N (a ++ [i])) hi hPi (by unfold PA; simp) (fun j hj => by unfold PA; simp [hj])
      rw [this, hcnt, ← hx]
    have hle : ahN N i ≤ x.out.length := by
      rw [hx, ← hcnt]
      obtain ⟨T, hT, _⟩ := range_cut hi
      unfold sel
      rw [List.length_map, hT, List.filter_append, List.length_append]
      omega
    have hlen : x.out.length < N.length := by
      rw [hx]
      unfold sel
      rw [List.length_map]
      have := List.length_filter_lt_length_iff_exists (l := List.range N.length) (p := PA N a)
      rw [List.length_range] at this
      exact this.2 ⟨i, List.mem_range.2 hi, by rw [hPi]; simp⟩
    have hcc : x.c ≤ N.getD i 0 ∧ x.p ≤ (N.getD i 0 - x.c) * (x.out.length + 1) + ahN N i := by
      rcases hc with ⟨_, e1, e2⟩ | ⟨i0, h0, _, e1, e2⟩
      · exact ⟨by omega, by omega⟩
      · have h1 := har i0 h0 i (by simp)
        have hi0 : i0 ≠ i := fun e => hia (e ▸ h0)
        obtain ⟨hi0l, _⟩ := (hM i0).1 (by rw [ho]; exact List.mem_append_left _ h0)
        unfold Ord at h1
        refine ⟨by omega, ?_⟩
        by_cases heq : N.getD i0 0 = N.getD i 0
        · have := ahN_mono (N := N) (i0 := i0) (i := i) (by omega) heq (by omega)
          omega
        · have h2 : 1 * (x.out.length + 1) ≤ (N.getD i 0 - x.c) * (x.out.length + 1) := Nat.mul_le_mul_right _ (by omega)
          have h3 : ahN N i0 + 1 ≤ x.out.length := by
            rw [hx]
            have hc0 := ahN_is N (fun j => decide (N.getD j 0 ≤ N.getD i0 0)) hi0l (fun j _ => rfl)
            obtain ⟨T, hT, _⟩ := range_cut hi0l
            unfold sel
            rw [List.length_map, hT, List.filter_append, List.length_append, List.filter_cons_of_pos (by unfold PA; rw [List.contains_iff_mem.2 h0, Bool.or_true]), List.length_cons, ← hc0]
            have : ((List.range i0).filter fun j => decide (N.getD j 0 ≤ N.getD i0 0)).length ≤ ((List.range i0).filter (PA N a)).length := by
              rw [← List.countP_eq_length_filter, ← List.countP_eq_length_filter]
              refine List.countP_mono_left fun j hj hle => ?_
              have hj := List.mem_range.1 hj
              rw [decide_eq_true_eq] at hle
              unfold PA
              rw [Bool.or_eq_true, decide_eq_true_eq, List.contains_iff_mem]
              by_cases hlt : N.getD j 0 < 128
              · exact .inl hlt
              · have hjo : j ∈ o := (hM j).2 ⟨by omega, by omega⟩
                rw [ho, List.mem_append, List.mem_cons] at hjo
                rcases hjo with h1 | h1 | h1
                · exact .inr h1
                · subst h1; omega
                · have := har i0 h0 j (List.mem_cons_of_mem _ h1)
                  unfold Ord at this
                  omega
            omega
          omega
    obtain ⟨s1, s2, s3, s4, s5⟩ := stD_dN hcc.1 hle hcc.2
    have hkd : okD x (dN N x i) = true := by
      unfold okD
      rw [s1, Bool.and_eq_true, decide_eq_true_eq, Nat.add_sub_cancel' hcc.1]
      refine ⟨hok _ ?_, by omega⟩
      have e : N[i]'hi = N.getD i 0 := by simp [List.getD, hi]
      rw [← e]
      exact List.getElem_mem _
    obtain ⟨g, y, hy, hyo⟩ := pu_run N hl hok o hS hM hN r (a ++ [i]) (stD x (dN N x i)) (by rw [ho]; simp) (s5.trans hsel.symm) (.inr ⟨i, by simp, fun j hj hne => by
      rw [List.mem_append, List.mem_singleton] at hj
      rcases hj with hj | hj
      · exact har j hj i (by simp)
      · exact absurd hj hne, s3, s4⟩)
    refine ⟨⟨⟨hi, hcc.1, hle, hcc.2, hkd⟩, g⟩, y, ?_, hyo⟩
    show (if okD x (dN N x i) = true then runD (stD x (dN N x i)) (puD N (stD x (dN N x i)) r) else none) = some y
    rw [if_pos hkd]
    exact hy

/-- The document's numbers are the program's, place by place. -/
theorem pu_enc (N : List Nat) (hl : N.length ≤ 255) (hok : ∀ z ∈ N, okC z = true) (o : List Nat) (hS : o.Pairwise (Ord N)) (hM : ∀ j, j ∈ o ↔ j < N.length ∧ 128 ≤ N.getD j 0) (hN : o.Nodup) :
    Good N ⟨bas N, 0, 128⟩ o ∧ encE N (N.length + 1) 128 (bas N).length 0 = puD N ⟨bas N, 0, 128⟩ o := by
  obtain ⟨g, y, hy, hyo⟩ := pu_run N hl hok o hS hM hN o [] ⟨bas N, 0, 128⟩ rfl (sel_bas N).symm (.inl ⟨rfl, rfl, rfl⟩)
  obtain ⟨z, z1, z2⟩ := enc_run N hl hok (N.length + 1) 128 (bas N).length 0 ⟨bas N, 0, 128⟩ (by omega) rfl ⟨rfl, Nat.le_refl _, by simp only; omega⟩
  exact ⟨g, (run_one (top_bas (bas N) (bas_lt N)) _ _ _ z y rfl z1 hy (z2.trans hyo.symm)).1⟩

theorem natL_at (L : List Int) (j : Nat) : (natL L).getD j 0 = (L.getD j 0).toNat := by
  unfold natL
  simp only [List.getD, List.getElem?_map]
  cases L[j]? <;> rfl

theorem ord_orO {L : List Int} (h : L.all okI = true) : (orO L).Pairwise (Ord (natL L)) ∧ (∀ j, j ∈ orO L ↔ j < (natL L).length ∧ 128 ≤ (natL L).getD j 0) ∧ (orO L).Nodup := by
  have hge : ∀ j, 0 ≤ L.getD j 0 := fun j => by
    by_cases hj : j < L.length
    · have e : L[j]'hj = L.getD j 0 := by simp [List.getD, hj]
      rw [← e]
      exact okI_ge (List.all_eq_true.1 h _ (List.getElem_mem _))
    · simp [List.getD, List.getElem?_eq_none (by omega : L.length ≤ j)]
  have hlen : (natL L).length = L.length := by simp [natL]
  refine ⟨?_, fun j => ?_, ?_⟩
  · refine (so_sor (keyL L) (plc L L.length)).imp fun {x y} hle => ?_
    have h1 := hge x
    have h2 := hge y
    have hle := le_iff.1 hle
    unfold keyL at hle
    unfold Ord
    rw [natL_at, natL_at]
    omega
  · unfold orO
    rw [so_mem, hlen, natL_at]
    have h1 := hge j
    unfold plc
    rw [List.mem_filter, List.mem_range, decide_eq_true_eq]
    omega
  · exact (so_perm (keyL L) (plc L L.length)).nodup_iff.2 ((plc_inc L L.length).imp fun {x y} hlt => Nat.ne_of_lt hlt)

end Go.Proofs.Ytljgmgbjfjhjmaa
