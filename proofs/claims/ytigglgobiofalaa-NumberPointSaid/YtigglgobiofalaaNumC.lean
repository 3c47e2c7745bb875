/- The exponent's contract; the float's ways: the document's own. -/
import Derived.Test.YtigglgobiofalaaNumB
namespace Go.Proofs.Ytigglgobiofalaa
open Go.RowKit Num
set_option linter.unusedVariables false
set_option linter.unusedSimpArgs false

theorem decV_lt : ∀ (n : Nat) (l : List UInt8), l.length = n → allD l = true → decV l < 10 ^ n
  | 0, l, h, _ => by
    have : l = [] := List.eq_nil_of_length_eq_zero h
    subst this; decide
  | n + 1, l, h, ha => by
    have hne : l ≠ [] := by intro e; subst e; simp at h
    have e := List.dropLast_concat_getLast hne
    have hl : l.dropLast.length = n := by rw [List.length_dropLast]; omega
    have h1 : allD l.dropLast = true := by
      unfold allD at *
      rw [List.all_eq_true] at *
      exact fun x hx => ha x (List.dropLast_subset l hx)
    have h2 : isD (l.getLast hne) = true := List.all_eq_true.1 ha _ (List.getLast_mem hne)
    have ih := decV_lt n l.dropLast hl h1
    have h3 := dV_le h2
    rw [← e, decV_snoc, Nat.pow_succ]
    omega

theorem decV_len {l : List UInt8} (h : allD l = true) (k : Nat) (hk : l.length ≤ k) : decV l < 10 ^ k :=
  Nat.lt_of_lt_of_le (decV_lt l.length l rfl h) (Nat.pow_le_pow_right (by omega) hk)

theorem wV_short {l : List UInt8} (h : allD l = true) (hk : l.length ≤ 18) : wV l = decV l := by
  have := decV_len h 18 hk
  unfold wV satV maxN
  rw [if_pos h]
  have e : (10 : Nat) ^ 18 = 1000000000000000000 := by decide
  omega

theorem wOK_iff {l : List UInt8} : wOK l = true ↔ l ≠ [] ∧ allD l = true := by
  unfold wOK
  rw [Bool.and_eq_true, decide_eq_true_eq, List.length_pos_iff]
  exact And.comm

def exT (e : Option Int) : AV := .tu [.c (.int .i64 (e.getD 0)), .c (.bool e.isSome)]

theorem exG_eq (s : Int) (q : List UInt8) : exG s q = exT (if q ≠ [] ∧ allD q = true ∧ q.length ≤ 4 then some (s * (decV q : Nat)) else none) := by
  unfold exG
  by_cases h : wOK q = true ∧ q.length ≤ 4
  · obtain ⟨h1, h2⟩ := wOK_iff.1 h.1
    rw [if_pos h, if_pos ⟨h1, h2, h.2⟩, wV_short h2 (by omega)]
    rfl
  · rw [if_neg h, if_neg (fun hh => h ⟨wOK_iff.2 ⟨hh.1, hh.2.1⟩, hh.2.2⟩)]
    rfl

def expoSpec : Spec
  | [.c (.string s)] => some (exT (expoF (sb s)), [(sb s).length ≤ 999999990])
  | _ => none

theorem u8_of {x : UInt8} {n : Nat} (hn : n < 256) (h : (x.toNat : Int) = n) : x = UInt8.ofNat n := by
  apply UInt8.toNat_inj.1
  rw [UInt8.toNat_ofNat']
  omega

theorem exA {c : UInt8} (hc : c = 101 ∨ c = 69) (q : List UInt8) : exG 1 q = exT (expoF (c :: 43 :: q)) := by
  rw [exG_eq]
  unfold expoF
  simp only [hc, if_true, Int.one_mul]
theorem exB {c : UInt8} (hc : c = 101 ∨ c = 69) (q : List UInt8) : exG (-1) q = exT (expoF (c :: 45 :: q)) := by
  rw [exG_eq]
  unfold expoF
  simp only [hc, if_true, Int.neg_mul, Int.one_mul]
theorem expoC {c d : UInt8} (hc : c = 101 ∨ c = 69) (h1 : d ≠ 43) (h2 : d ≠ 45) (q : List UInt8) : expoF (c :: d :: q) = if d :: q ≠ [] ∧ allD (d :: q) = true ∧ (d :: q).length ≤ 4 then some (decV (d :: q) : Int) else none := by
  unfold expoF
  simp only [hc, if_true]
  split
  · rename_i h; exact absurd (List.cons.inj h).1 h1
  · rename_i h; exact absurd (List.cons.inj h).1 h2
  · rfl
theorem exC {c d : UInt8} (hc : c = 101 ∨ c = 69) (h1 : d ≠ 43) (h2 : d ≠ 45) (q : List UInt8) : exG 1 (d :: q) = exT (expoF (c :: d :: q)) := by
  rw [exG_eq, expoC hc h1 h2, Int.one_mul]
theorem exD {c : UInt8} (hc : ¬ (c = 101 ∨ c = 69)) (r : List UInt8) : AV.tu [.c (.int .i64 0), .c (.bool false)] = exT (expoF (c :: r)) := by
  unfold expoF
  simp only [hc, if_false]
  rfl
theorem exE {c : UInt8} (hc : c = 101 ∨ c = 69) : AV.tu [.c (.int .i64 0), .c (.bool false)] = exT (expoF [c]) := by
  unfold expoF
  simp only [hc, if_true]
  rfl

theorem rexpo_ok : SpecOK Try.prog 21 expoSpec := by
  refine spec_of mixed clE_ok fun args r q hs hq => ?_
  unfold expoSpec at hs
  split at hs
  · rename_i s
    simp only [Option.some.injEq, Prod.mk.injEq] at hs
    obtain ⟨rfl, rfl⟩ := hs
    obtain ⟨⟨⟨l⟩⟩, rfl⟩ : ∃ b : ByteArray, b = s := ⟨s, rfl⟩
    have hl : l.length ≤ 999999990 := hq.1
    rw [show sb ⟨⟨l⟩⟩ = l from rfl]
    clear hq
    rcases l with _ | ⟨c, r⟩
    · obtain ⟨hh, p, e, hp⟩ := re0_all
      exact ⟨_, _, _, _, lpBy_nil, e, hp⟩
    · by_cases hc : (c.toNat : Int) = 101 ∨ (c.toNat : Int) = 69
      · rcases hc with hc | hc
        · obtain rfl := u8_of (n := 101) (by omega) hc
          rcases r with _ | ⟨d, q⟩
          · obtain ⟨hh, p, e, hp⟩ := re2a_all
            exact ⟨_, _, _, _, lpBy_nil, e.trans (congrArg (fun r => some (r, p)) (exE (.inl rfl))), hp⟩
          · simp only [List.length_cons] at hl
            by_cases h1 : (d.toNat : Int) = 43
            · obtain rfl := u8_of (n := 43) (by omega) h1
              obtain ⟨hh, p, e, hp⟩ := re3a_all q (by omega) (wV_le q)
              exact ⟨_, _, _, _, lpBy_nil, e.trans (congrArg (fun r => some (r, p)) (exA (.inl rfl) q)), hp⟩
            · by_cases h2 : (d.toNat : Int) = 45
              · obtain rfl := u8_of (n := 45) (by omega) h2
                obtain ⟨hh, p, e, hp⟩ := re4a_all q (by omega) (wV_le q)
                exact ⟨_, _, _, _, lpBy_nil, e.trans (congrArg (fun r => some (r, p)) (exB (.inl rfl) q)), hp⟩
              · obtain ⟨hh, p, e, hp⟩ := re5a_all d q h1 h2 (by omega) (wV_le (d :: q))
                exact ⟨_, _, _, _, lpBy_nil, e.trans (congrArg (fun r => some (r, p)) (exC (.inl rfl) (by rintro rfl; exact h1 rfl) (by rintro rfl; exact h2 rfl) q)), hp⟩

        · obtain rfl := u8_of (n := 69) (by omega) hc
          rcases r with _ | ⟨d, q⟩
          · obtain ⟨hh, p, e, hp⟩ := re2b_all
            exact ⟨_, _, _, _, lpBy_nil, e.trans (congrArg (fun r => some (r, p)) (exE (.inr rfl))), hp⟩
          · simp only [List.length_cons] at hl
            by_cases h1 : (d.toNat : Int) = 43
            · obtain rfl := u8_of (n := 43) (by omega) h1
              obtain ⟨hh, p, e, hp⟩ := re3b_all q (by omega) (wV_le q)
              exact ⟨_, _, _, _, lpBy_nil, e.trans (congrArg (fun r => some (r, p)) (exA (.inr rfl) q)), hp⟩
            · by_cases h2 : (d.toNat : Int) = 45
              · obtain rfl := u8_of (n := 45) (by omega) h2
                obtain ⟨hh, p, e, hp⟩ := re4b_all q (by omega) (wV_le q)
                exact ⟨_, _, _, _, lpBy_nil, e.trans (congrArg (fun r => some (r, p)) (exB (.inr rfl) q)), hp⟩
              · obtain ⟨hh, p, e, hp⟩ := re5b_all d q h1 h2 (by omega) (wV_le (d :: q))
                exact ⟨_, _, _, _, lpBy_nil, e.trans (congrArg (fun r => some (r, p)) (exC (.inr rfl) (by rintro rfl; exact h1 rfl) (by rintro rfl; exact h2 rfl) q)), hp⟩
      · obtain ⟨hh, p, e, hp⟩ := re1_all c r (fun h => hc (.inl h)) (fun h => hc (.inr h))
        exact ⟨_, _, _, _, lpBy_nil, e.trans (congrArg (fun r => some (r, p)) (exD (by rintro (rfl | rfl) <;> simp at hc) r)), hp⟩
  · simp at hs

end Go.Proofs.Ytigglgobiofalaa
