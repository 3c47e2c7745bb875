/- The float's contract: the document's own. -/
import Derived.Test.YtigglgobiofalaaNumE
namespace Go.Proofs.Ytigglgobiofalaa
open Go.RowKit Num Ieee
set_option linter.unusedVariables false
set_option linter.unusedSimpArgs false

theorem int_number (v : Nat) (h : v ≤ 9223372036854775807) : ∃ m i, double.read (floatOfInt .f64 (v : Int)) = .number false m i := by
  by_cases h0 : v = 0
  · subst h0
    exact ⟨_, _, rfl⟩
  · have e : floatOfInt .f64 (v : Int) = double.nearest false v 0 := by
      show double.write (.number (decide ((v : Int) < 0)) ((v : Int).natAbs) 0) = _
      rw [show decide ((v : Int) < 0) = false from decide_eq_false (by omega), Int.natAbs_natCast]
      rfl
    have hr : Flt.rung v 0 < 2047 * 2 ^ 52 := Nat.lt_of_le_of_lt (Flt.rung_mono h0 h 0) (by decide +kernel)
    rw [e, Flt.nearest_rung false h0 0, Nat.min_eq_left (by omega), Flt.read_word false hr]
    exact ⟨_, _, rfl⟩

theorem pw_number (k : Nat) (h : k ≤ 22) : ∃ n j, double.read (pwB k) = .number false n j ∧ n ≠ 0 := by
  have : ∀ k : Fin 23, (match double.read (pwB k.val) with | .number false n _ => n != 0 | _ => false) = true := by decide +kernel
  have := this ⟨k, by omega⟩
  simp only at this
  split at this
  · rename_i n j e
    exact ⟨n, j, e, by simpa using this⟩
  · simp at this

theorem wOKs_ok (v : Nat) (h : v ≤ 9223372036854775807) (e : Int) : wOKs v e := by
  intro h1 h2
  obtain ⟨m, i, hx⟩ := int_number v h
  obtain ⟨n, j, hy, hn⟩ := pw_number e.natAbs (by omega)
  constructor
  · intro _
    show (double.div _ _).isSome = true
    unfold Format.div
    rw [hx, hy]
    simp only [Datum.quotient, if_neg hn]
    rfl
  · intro _
    show (double.mul _ _).isSome = true
    unfold Format.mul
    rw [hx, hy]
    rfl

/-- What the document's float tells. -/
def fltW (o : Option (Bool × List UInt8 × Int)) : Nat := match o with
  | some (m, a, e) => wordF m (decV a : Nat) e
  | none => 0
def fltT (o : Option (Bool × List UInt8 × Int)) : AV := .tu [.c (.float .f64 (fltW o)), .c (.bool o.isSome)]

theorem expo_small {l : List UInt8} : -9999 ≤ (expoF l).getD 0 ∧ (expoF l).getD 0 ≤ 9999 := by
  have key : ∀ q : List UInt8, allD q = true → q.length ≤ 4 → decV q ≤ 9999 := fun q h1 h2 => by
    have := decV_len h1 4 h2
    omega
  unfold expoF
  split
  · simp
  · split
    · split
      all_goals
        split
        · rename_i h
          have := key _ h.2.1 h.2.2
          simp only [Option.getD_some]
          omega
        · simp
    · simp

theorem fltG_fin (m : Bool) {a : List UInt8} (ha : allD a = true) (k : Nat) (w : List UInt8) :
    fltG m (wOK a) (expoF w).isSome a.length (wV a : Nat) ((expoF w).getD 0 - (k : Nat)) = fltT (finF m a k w) := by
  unfold fltG finF
  cases hx : expoF w with
  | none =>
    rw [if_neg (by simp)]
    rfl
  | some x =>
    simp only [Option.isSome_some, Option.getD_some]
    by_cases h : a ≠ [] ∧ a.length ≤ 15 ∧ -22 ≤ x - (k : Nat) ∧ x - (k : Nat) ≤ 22
    · rw [if_pos ⟨wOK_iff.2 ⟨h.1, ha⟩, trivial, h.2.1, h.2.2.1, h.2.2.2⟩, if_pos h, wV_short ha (by omega)]
      rfl
    · rw [if_neg (fun hh => h ⟨(wOK_iff.1 hh.1).1, hh.2.2.1, hh.2.2.2.1, hh.2.2.2.2⟩), if_neg h]
      rfl

theorem take_ld (b : List UInt8) : b.take (ldD b) = b.takeWhile isD := by
  have h := List.take_left (l₁ := b.takeWhile isD) (l₂ := b.dropWhile isD)
  rw [← split_D b] at h
  exact h
theorem drop_ld (b : List UInt8) : b.drop (ldD b) = b.dropWhile isD := by
  have h := List.drop_left (l₁ := b.takeWhile isD) (l₂ := b.dropWhile isD)
  rw [← split_D b] at h
  exact h

theorem rbodyt (b : List UInt8) (hl : b.length ≤ 999999980)  : ∃ (h : Hints) (lp : Nat → Option Lp) (p : List Prop), LpOK Ext0 Try.prog lp ∧ outcome Try.prog 12 (aBody Try.prog clF h lp 60 12 [.c (str (45 :: b))] []) = some (fltT (bodyF true b), p) ∧ allP p := by
  have hnl := ldD_le b
  have hd := take_ld b
  have hz := drop_ld b
  have ht := tw_all b
  have hlen := congrArg List.length (split_D b)
  rw [List.length_append] at hlen
  have hdl : (b.takeWhile isD).length ≤ b.length := by omega
  unfold bodyF
  split
  · rename_i r hr
    rw [hr] at hz hlen
    simp only [List.length_cons] at hlen
    have hkl := ldD_le r
    by_cases hk : ldD r = 0
    · have : r.takeWhile isD = [] := List.eq_nil_of_length_eq_zero hk
      rw [if_pos this]
      obtain ⟨h, p, e, hp⟩ := rfZt_all b _ r 0 _ rfl hd hz hk rfl hl hnl (by omega) 
      exact ⟨_, _, p, lpBy_nil, e, hp⟩
    · have hne : r.takeWhile isD ≠ [] := fun e => hk (by unfold ldD; rw [e]; rfl)
      have hrl := congrArg List.length (split_D r)
      rw [List.length_append] at hrl
      rw [if_neg hne]
      have hall : allD (b.takeWhile isD ++ r.takeWhile isD) = true := by rw [allD_app, ht, tw_all]; rfl
      have hx := expo_small (l := r.dropWhile isD)
      have hkk : ldD r = (r.takeWhile isD).length := rfl
      rw [← fltG_fin true hall]
      have hwv := wV_le (b.takeWhile isD ++ r.takeWhile isD)
      obtain ⟨h, p, e, hp⟩ := rfPt_all b _ r _ _ _ _ _ _ _ _ _ rfl hd hz rfl hk (congrArg _ (take_ld r)) (drop_ld r) rfl rfl rfl rfl rfl hl hnl hkl (by omega) (by rw [List.length_append]; omega) hdl (by omega) hx.1 hx.2 (wOKs_ok _ hwv _) 
      exact ⟨_, _, p, lpBy_cons lpBy_nil List.nodup_nil (rp_walk _ _ _ (by omega)), e, hp⟩
  · rename_i hno
    have hx := expo_small (l := b.dropWhile isD)
    have hwv := wV_le (b.takeWhile isD)
    rw [← fltG_fin true ht]
    have e0 : (expoF (b.dropWhile isD)).getD 0 - ((0 : Nat) : Int) = (expoF (b.dropWhile isD)).getD 0 - 0 := rfl
    rw [e0]
    rcases hw : b.dropWhile isD with _ | ⟨c, z⟩
    · rw [hw] at hz hx hlen
      obtain ⟨h, p, e, hp⟩ := rfEt_all b _ _ _ _ _ _ _ rfl hd hz rfl rfl rfl rfl rfl hl hnl hdl hx.1 hx.2 (wOKs_ok _ hwv _) 
      exact ⟨_, _, p, lpBy_cons lpBy_nil List.nodup_nil (rp_walk _ _ _ (by omega)), e, hp⟩
    · rw [hw] at hz hx hlen
      simp only [List.length_cons] at hlen
      have hc : ¬ (c.toNat : Int) = 46 := fun h => by
        obtain rfl := u8_of (n := 46) (by omega) h
        exact hno z hw
      obtain ⟨h, p, e, hp⟩ := rfNt_all b _ z c _ _ _ _ _ _ rfl hd hz rfl rfl rfl rfl rfl hl hnl hdl (by omega) hx.1 hx.2 (wOKs_ok _ hwv _)  hc
      exact ⟨_, _, p, lpBy_cons lpBy_nil List.nodup_nil (rp_walk _ _ _ (by omega)), e, hp⟩


theorem rbodyf (b : List UInt8) (hl : b.length ≤ 999999980) (hb0 : b ≠ []) (hb1 : ¬ ((b.getD 0 0).toNat : Int) = 45) : ∃ (h : Hints) (lp : Nat → Option Lp) (p : List Prop), LpOK Ext0 Try.prog lp ∧ outcome Try.prog 12 (aBody Try.prog clF h lp 60 12 [.c (str (b))] []) = some (fltT (bodyF false b), p) ∧ allP p := by
  have hnl := ldD_le b
  have hd := take_ld b
  have hz := drop_ld b
  have ht := tw_all b
  have hlen := congrArg List.length (split_D b)
  rw [List.length_append] at hlen
  have hdl : (b.takeWhile isD).length ≤ b.length := by omega
  unfold bodyF
  split
  · rename_i r hr
    rw [hr] at hz hlen
    simp only [List.length_cons] at hlen
    have hkl := ldD_le r
    by_cases hk : ldD r = 0
    · have : r.takeWhile isD = [] := List.eq_nil_of_length_eq_zero hk
      rw [if_pos this]
      obtain ⟨h, p, e, hp⟩ := rfZf_all b _ r 0 _ rfl hd hz hk rfl hl hnl (by omega) hb0 hb1 (List.length_pos_iff.2 hb0)
      exact ⟨_, _, p, lpBy_nil, e, hp⟩
    · have hne : r.takeWhile isD ≠ [] := fun e => hk (by unfold ldD; rw [e]; rfl)
      have hrl := congrArg List.length (split_D r)
      rw [List.length_append] at hrl
      rw [if_neg hne]
      have hall : allD (b.takeWhile isD ++ r.takeWhile isD) = true := by rw [allD_app, ht, tw_all]; rfl
      have hx := expo_small (l := r.dropWhile isD)
      have hkk : ldD r = (r.takeWhile isD).length := rfl
      rw [← fltG_fin false hall]
      have hwv := wV_le (b.takeWhile isD ++ r.takeWhile isD)
      obtain ⟨h, p, e, hp⟩ := rfPf_all b _ r _ _ _ _ _ _ _ _ _ rfl hd hz rfl hk (congrArg _ (take_ld r)) (drop_ld r) rfl rfl rfl rfl rfl hl hnl hkl (by omega) (by rw [List.length_append]; omega) hdl (by omega) hx.1 hx.2 (wOKs_ok _ hwv _) hb0 hb1
      exact ⟨_, _, p, lpBy_cons lpBy_nil List.nodup_nil (rp_walk _ _ _ (by omega)), e, hp⟩
  · rename_i hno
    have hx := expo_small (l := b.dropWhile isD)
    have hwv := wV_le (b.takeWhile isD)
    rw [← fltG_fin false ht]
    have e0 : (expoF (b.dropWhile isD)).getD 0 - ((0 : Nat) : Int) = (expoF (b.dropWhile isD)).getD 0 - 0 := rfl
    rw [e0]
    rcases hw : b.dropWhile isD with _ | ⟨c, z⟩
    · rw [hw] at hz hx hlen
      obtain ⟨h, p, e, hp⟩ := rfEf_all b _ _ _ _ _ _ _ rfl hd hz rfl rfl rfl rfl rfl hl hnl hdl hx.1 hx.2 (wOKs_ok _ hwv _) hb0 hb1 (List.length_pos_iff.2 hb0)
      exact ⟨_, _, p, lpBy_cons lpBy_nil List.nodup_nil (rp_walk _ _ _ (by omega)), e, hp⟩
    · rw [hw] at hz hx hlen
      simp only [List.length_cons] at hlen
      have hc : ¬ (c.toNat : Int) = 46 := fun h => by
        obtain rfl := u8_of (n := 46) (by omega) h
        exact hno z hw
      obtain ⟨h, p, e, hp⟩ := rfNf_all b _ z c _ _ _ _ _ _ rfl hd hz rfl rfl rfl rfl rfl hl hnl hdl (by omega) hx.1 hx.2 (wOKs_ok _ hwv _) hb0 hb1 (List.length_pos_iff.2 hb0) hc
      exact ⟨_, _, p, lpBy_cons lpBy_nil List.nodup_nil (rp_walk _ _ _ (by omega)), e, hp⟩

def floatSpec : Spec
  | [.c (.string s)] => some (fltT (floatF (sb s)), [(sb s).length ≤ 999999980])
  | _ => none

theorem float_t (b : List UInt8) : floatF (45 :: b) = bodyF true b := rfl
theorem float_f {b : List UInt8} (h : ¬ ((b.getD 0 0).toNat : Int) = 45) : floatF b = bodyF false b := by
  unfold floatF
  split
  · exact absurd rfl h
  · rfl

theorem rfloat_ok : SpecOK Try.prog 12 floatSpec := by
  refine spec_of mixed clF_ok fun args r q hs hq => ?_
  unfold floatSpec at hs
  split at hs
  · rename_i s
    simp only [Option.some.injEq, Prod.mk.injEq] at hs
    obtain ⟨rfl, rfl⟩ := hs
    obtain ⟨⟨⟨l⟩⟩, rfl⟩ : ∃ b : ByteArray, b = s := ⟨s, rfl⟩
    have hl : l.length ≤ 999999980 := hq.1
    rw [show sb ⟨⟨l⟩⟩ = l from rfl]
    clear hq
    rcases l with _ | ⟨c, r⟩
    · obtain ⟨hh, p, e, hp⟩ := rfO_all
      exact ⟨_, _, _, _, lpBy_nil, e, hp⟩
    · by_cases hc : (c.toNat : Int) = 45
      · obtain rfl := u8_of (n := 45) (by omega) hc
        simp only [List.length_cons] at hl
        obtain ⟨hh, lp, p, h1, e, hp⟩ := rbodyt r (by omega)
        exact ⟨_, _, _, _, h1, e, hp⟩
      · obtain ⟨hh, lp, p, h1, e, hp⟩ := rbodyf (c :: r) hl (by simp) hc
        rw [float_f (b := c :: r) hc]
        exact ⟨_, _, _, _, h1, e, hp⟩
  · simp at hs

end Go.Proofs.Ytigglgobiofalaa
