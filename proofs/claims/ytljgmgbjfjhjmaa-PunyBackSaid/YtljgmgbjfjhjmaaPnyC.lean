/- Signs as letters: texts of rows, and back. -/
import Derived.Test.YtljgmgbjfjhjmaaPnyB
namespace Go.Proofs.Ytljgmgbjfjhjmaa.Pny
open Go.RowKit
set_option linter.unusedVariables false
set_option linter.unusedSimpArgs false

theorem okD_le {x : Stt} {d : Nat} (h : okD x d = true) : d ≤ 284098560 ∧ (128 ≤ x.c → d ≤ 284065919) ∧ x.out.length < 255 ∧ okC (x.c + (x.p + d) / (x.out.length + 1)) = true := by
  unfold okD at h
  rw [Bool.and_eq_true, decide_eq_true_eq] at h
  obtain ⟨h1, h2⟩ := h
  refine ⟨?_, ?_, h2, h1⟩
  all_goals
    unfold okC at h1
    simp only [Bool.and_eq_true, decide_eq_true_eq] at h1
    have h3 := h1.1
    have hq := Nat.div_add_mod (x.p + d) (x.out.length + 1)
    have hm : (x.p + d) % (x.out.length + 1) < x.out.length + 1 := Nat.mod_lt _ (by omega)
    generalize (x.p + d) / (x.out.length + 1) = q at *
    have hb : (x.out.length + 1) * q ≤ 255 * q := Nat.mul_le_mul_right _ (by omega)
    omega

/-- A row's numbers as letters. -/
def wrT : List Nat → Nat → Nat → Bool → List UInt8
  | [], _, _, _ => []
  | d :: r, n, b, f => leB b 40 0 d ++ wrT r (n + 1) (adp d (n + 1) f) false

/-- Numbers that are told in letters build a row. -/
def decT : Nat → Stt → Nat → Bool → List UInt8 → Option (List Nat)
  | _, x, _, _, [] => some x.out
  | 0, _, _, _, _ :: _ => none
  | g + 1, x, b, f, c :: s => match rdB b 0 1 0 (c :: s) with
    | none => none
    | some (d, k) => if okD x d = true then decT g (stD x d) (adp d (x.out.length + 1) f) false ((c :: s).drop k) else none

theorem leB_ne (b f j d : Nat) : leB b (f + 1) j d ≠ [] := by
  rw [leB_succ]; split <;> simp

theorem decT_cons (g : Nat) (x : Stt) (b : Nat) (f : Bool) {s : List UInt8} (h : s ≠ []) : decT (g + 1) x b f s = match rdB b 0 1 0 s with
    | none => none
    | some (d, k) => if okD x d = true then decT g (stD x d) (adp d (x.out.length + 1) f) false (s.drop k) else none := by
  cases s with
  | nil => exact absurd rfl h
  | cons c s => rfl

theorem decT_wr : ∀ (ds : List Nat) (g : Nat) (x y : Stt) (b : Nat) (f : Bool), ds.length ≤ g → runD x ds = some y → decT g x b f (wrT ds x.out.length b f) = some y.out
  | [], g, x, y, b, f, hg, h => by
    obtain rfl : x = y := Option.some.inj h
    cases g <;> rfl
  | d :: r, g, x, y, b, f, hg, h => by
    obtain ⟨g, rfl⟩ : ∃ k, g = k + 1 := ⟨g - 1, by simp only [List.length_cons] at hg; omega⟩
    have h : (if okD x d = true then runD (stD x d) r else none) = some y := h
    split at h
    · rename_i hok
      have hd := (okD_le hok).1
      have hr := rd_le b 39 0 1 0 d (wrT r (x.out.length + 1) (adp d (x.out.length + 1) f) false) (Nat.lt_of_le_of_lt hd (by decide)) (by omega)
      rw [Nat.zero_add, Nat.one_mul] at hr
      show decT (g + 1) x b f (leB b 40 0 d ++ wrT r (x.out.length + 1) (adp d (x.out.length + 1) f) false) = _
      rw [decT_cons _ _ _ _ (by simp [leB_ne]), hr]
      simp only
      rw [if_pos hok, List.drop_left]
      have ih := decT_wr r g (stD x d) y (adp d (x.out.length + 1) f) false (by simp only [List.length_cons] at hg; omega) h
      rw [stD_len] at ih
      exact ih
    · cases h

theorem decT_is : ∀ (g : Nat) (x : Stt) (b : Nat) (f : Bool) (s : List UInt8) (l : List Nat), s.length ≤ 400000 → decT g x b f s = some l → ∃ ds y, runD x ds = some y ∧ y.out = l ∧ s.map low = wrT ds x.out.length b f
  | g, x, b, f, [], l, _, h => ⟨[], x, rfl, by cases g <;> exact Option.some.inj h, rfl⟩
  | 0, x, b, f, c :: s, l, _, h => by cases h
  | g + 1, x, b, f, c :: s, l, hl, h => by
    rw [decT_cons _ _ _ _ (by simp)] at h
    split at h
    · cases h
    · rename_i d k hr
      split at h
      · rename_i hok
        have hd := (okD_le hok).1
        obtain ⟨e, e1, e2, e3, e4, e5⟩ := le_rd b (c :: s) (max 40 (c :: s).length) 0 1 0 d k (by omega) hr
        obtain rfl : e = d := by omega
        rw [leB_more b (max 40 (c :: s).length) 0 e (by omega) (Nat.lt_of_le_of_lt hd (by decide))] at e4
        obtain ⟨ds, y, h1, h2, h3⟩ := decT_is g (stD x e) (adp e (x.out.length + 1) f) false ((c :: s).drop k) l (by rw [List.length_drop]; omega) h
        refine ⟨e :: ds, y, ?_, h2, ?_⟩
        · show (if okD x e = true then runD (stD x e) ds else none) = _
          rw [if_pos hok]; exact h1
        · show _ = leB b 40 0 e ++ wrT ds (x.out.length + 1) (adp e (x.out.length + 1) f) false
          rw [stD_len] at h3
          rw [← e4, ← h3, ← List.map_append, List.take_append_drop]
      · cases h
where
  leB_more (b : Nat) : ∀ (f j d : Nat), 40 ≤ f → d < 10 ^ 39 → leB b f j d = leB b 40 j d := by
    have key : ∀ (g f j d : Nat), g + 1 ≤ f → d < 10 ^ g → leB b f j d = leB b (g + 1) j d := by
      intro g
      induction g with
      | zero =>
        intro f j d hf hd
        obtain ⟨f, rfl⟩ : ∃ k, f = k + 1 := ⟨f - 1, by omega⟩
        have := (bnd_bd j b).1
        have h0 : d = 0 := by simpa using hd
        rw [leB_succ, leB_succ, if_pos (by omega), if_pos (by omega)]
      | succ g ih =>
        intro f j d hf hd
        obtain ⟨f, rfl⟩ : ∃ k, f = k + 1 := ⟨f - 1, by omega⟩
        obtain ⟨t1, t2⟩ := bnd_bd j b
        rw [leB_succ, leB_succ b (g + 1)]
        split
        · rfl
        · rw [ih f (j + 1) _ (by omega) (quo_lt t1 t2 (by rw [Nat.pow_succ] at hd; omega))]
    exact fun f j d hf hd => key 39 f j d hf hd

/-! Whole texts. -/
def cutG : List UInt8 → Nat → Nat → Nat
  | [], _, cur => cur
  | c :: r, i, cur => cutG r (i + 1) (if c = 45 ∧ 1 ≤ i then i else cur)
/-- Where the last hyphen stands, but at the first place (0: nowhere). -/
def cutD (s : List UInt8) : Nat := cutG s 0 0

theorem cutG_none : ∀ (r : List UInt8) (i cur : Nat), (∀ c ∈ r, c ≠ 45) → cutG r i cur = cur
  | [], _, _, _ => rfl
  | c :: r, i, cur, h => by
    have hc := h c List.mem_cons_self
    show cutG r (i + 1) _ = cur
    rw [if_neg (fun e => hc e.1)]
    exact cutG_none r (i + 1) cur fun d hd => h d (List.mem_cons_of_mem _ hd)
theorem cutG_app : ∀ (a b : List UInt8) (i cur : Nat), 1 ≤ i + a.length → (∀ c ∈ b, c ≠ 45) → cutG (a ++ 45 :: b) i cur = i + a.length
  | [], b, i, cur, h, hb => by
    show cutG b (i + 1) (if (45 : UInt8) = 45 ∧ 1 ≤ i then i else cur) = _
    simp only [List.length_nil, Nat.add_zero] at h ⊢
    rw [if_pos ⟨trivial, h⟩]
    exact cutG_none b _ _ hb
  | c :: a, b, i, cur, h, hb => by
    show cutG (a ++ 45 :: b) (i + 1) _ = _
    rw [cutG_app a b (i + 1) _ (by omega) hb, List.length_cons]
    omega
theorem cutG_spec : ∀ (r : List UInt8) (i cur : Nat), cutG r i cur = cur ∨ ∃ j, cutG r i cur = i + j ∧ j < r.length ∧ r.getD j 0 = 45 ∧ 1 ≤ i + j
  | [], _, _ => .inl rfl
  | c :: r, i, cur => by
    show cutG r (i + 1) (if c = 45 ∧ 1 ≤ i then i else cur) = cur ∨ ∃ j, cutG r (i + 1) (if c = 45 ∧ 1 ≤ i then i else cur) = i + j ∧ _
    by_cases h : c = 45 ∧ 1 ≤ i
    · rw [if_pos h]
      rcases cutG_spec r (i + 1) i with e | ⟨j, e1, e2, e3, e4⟩
      · exact .inr ⟨0, by rw [e]; rfl, by simp, by simpa using h.1, by omega⟩
      · exact .inr ⟨j + 1, by rw [e1]; omega, by simpa using e2, by simpa using e3, by omega⟩
    · rw [if_neg h]
      rcases cutG_spec r (i + 1) cur with e | ⟨j, e1, e2, e3, e4⟩
      · exact .inl e
      · exact .inr ⟨j + 1, by rw [e1]; omega, by simpa using e2, by simpa using e3, by omega⟩

def bas (l : List Nat) : List Nat := l.filter fun z => decide (z < 128)
def byt (l : List Nat) : List UInt8 := l.map UInt8.ofNat
def hyp (n : Nat) : List UInt8 := if 0 < n then [45] else []

/-- A row's text. -/
def encP (l : List Nat) : List UInt8 := byt (bas l) ++ (hyp (bas l).length ++ wrT (encE l (l.length + 1) 128 (bas l).length 0) (bas l).length 72 true)
/-- May a row have a text? -/
def mayP (l : List Nat) : Bool := decide (l.length ≤ 255) && l.all okC

/-- The row of a text. -/
def decP (s : List UInt8) : Option (List Nat) :=
  if (s.take (cutD s)).all (fun c => decide (c.toNat < 128)) = true then
    match decT s.length ⟨(s.take (cutD s)).map UInt8.toNat, 0, 128⟩ 72 true (if 0 < cutD s then s.drop (cutD s + 1) else s) with
    | some l => if l.length ≤ 255 then some l else none
    | none => none
  else none

theorem le_dig (b : Nat) : ∀ (f j d : Nat), ∀ c ∈ leB b f j d, ∃ k, k < 36 ∧ c = chr k
  | 0, j, d, c, h => by cases h
  | f + 1, j, d, c, h => by
    obtain ⟨t1, t2⟩ := bnd_bd j b
    rw [leB_succ] at h
    split at h
    · rename_i hlt
      obtain rfl := List.mem_singleton.1 h
      exact ⟨d, by omega, rfl⟩
    · rcases List.mem_cons.1 h with rfl | h
      · exact ⟨_, by have : (d - bnd j b) % (36 - bnd j b) < 36 - bnd j b := Nat.mod_lt _ (by omega); omega, rfl⟩
      · exact le_dig b f (j + 1) _ c h
theorem wr_dig : ∀ (ds : List Nat) (n b : Nat) (f : Bool), ∀ c ∈ wrT ds n b f, ∃ k, k < 36 ∧ c = chr k
  | [], n, b, f, c, h => by cases h
  | d :: r, n, b, f, c, h => by
    rcases List.mem_append.1 h with h | h
    · exact le_dig b 40 0 d c h
    · exact wr_dig r _ _ _ c h
theorem chr_no {k : Nat} (h : k < 36) : chr k ≠ 45 ∧ low (chr k) = chr k ∧ ¬ (65 ≤ (chr k).toNat ∧ (chr k).toNat ≤ 90) ∧ 0 ≤ wo (chr k) := by
  have key : ∀ y : Fin 36, chr y.val ≠ 45 ∧ low (chr y.val) = chr y.val ∧ ¬ (65 ≤ (chr y.val).toNat ∧ (chr y.val).toNat ≤ 90) ∧ 0 ≤ wo (chr y.val) := by decide +kernel
  exact key ⟨k, h⟩
theorem wr_len_le : ∀ (ds : List Nat) (n b : Nat) (f : Bool), ds.length ≤ (wrT ds n b f).length
  | [], _, _, _ => Nat.le_refl _
  | d :: r, n, b, f => by
    have h1 : 0 < (leB b 40 0 d).length := List.length_pos_iff.2 (leB_ne b 39 0 d)
    have h2 := wr_len_le r (n + 1) (adp d (n + 1) f) false
    show _ ≤ (leB b 40 0 d ++ _).length
    rw [List.length_append, List.length_cons]
    omega

theorem byt_nat {l : List Nat} (h : ∀ z ∈ l, z < 128) : (byt l).map UInt8.toNat = l ∧ (byt l).all (fun c => decide (c.toNat < 128)) = true := by
  constructor
  · unfold byt
    rw [List.map_map]
    conv => rhs; rw [← List.map_id l]
    apply List.map_congr_left
    intro z hz
    have := h z hz
    simp only [Function.comp, id, UInt8.toNat_ofNat']
    omega
  · rw [List.all_eq_true]
    intro c hc
    obtain ⟨z, hz, rfl⟩ := List.mem_map.1 hc
    have := h z hz
    rw [decide_eq_true_eq, UInt8.toNat_ofNat']
    omega
theorem bas_lt (l : List Nat) : ∀ z ∈ bas l, z < 128 := fun z hz => by simpa using (List.mem_filter.1 hz).2

theorem enc_cut (a : List UInt8) (w : List UInt8) (hw : ∀ c ∈ w, c ≠ 45) : cutD (a ++ (hyp a.length ++ w)) = a.length := by
  unfold cutD hyp
  by_cases h : 0 < a.length
  · rw [if_pos h]
    show cutG (a ++ 45 :: w) 0 0 = _
    rw [cutG_app a w 0 0 (by omega) hw]
    omega
  · rw [if_neg h]
    have : a = [] := List.length_eq_zero_iff.1 (by omega)
    subst this
    exact cutG_none w 0 0 hw

/-- A row is read as it was written. -/
theorem dec_enc {l : List Nat} (h : mayP l = true) : decP (encP l) = some l := by
  unfold mayP at h
  rw [Bool.and_eq_true, decide_eq_true_eq, List.all_eq_true] at h
  obtain ⟨h1, h2⟩ := h
  have hb := bas_lt l
  obtain ⟨b1, b2⟩ := byt_nat hb
  have hlen : (byt (bas l)).length = (bas l).length := by simp [byt]
  obtain ⟨y, y1, y2⟩ := enc_run l h1 h2 (l.length + 1) 128 (bas l).length 0 ⟨bas l, 0, 128⟩ (by omega) rfl ⟨rfl, Nat.le_refl _, by simp only; omega⟩
  have hw := wr_dig (encE l (l.length + 1) 128 (bas l).length 0) (bas l).length 72 true
  have hl := wr_len_le (encE l (l.length + 1) 128 (bas l).length 0) (bas l).length 72 true
  have hd := decT_wr (encE l (l.length + 1) 128 (bas l).length 0)
  unfold encP
  generalize encE l (l.length + 1) 128 (bas l).length 0 = ds at *
  have hd := hd (byt (bas l) ++ (hyp (bas l).length ++ wrT ds (bas l).length 72 true)).length ⟨bas l, 0, 128⟩ y 72 true (by rw [List.length_append, List.length_append]; omega) y1
  simp only at hd
  generalize wrT ds (bas l).length 72 true = w at *
  have hc := enc_cut (byt (bas l)) w (fun c hc => by obtain ⟨k, k1, rfl⟩ := hw c hc; exact (chr_no k1).1)
  rw [hlen] at hc
  unfold decP
  rw [hc, ← hlen, List.take_left, b1, b2, if_pos rfl]
  have hrest : (if 0 < (byt (bas l)).length then (byt (bas l) ++ (hyp (byt (bas l)).length ++ w)).drop ((byt (bas l)).length + 1) else byt (bas l) ++ (hyp (byt (bas l)).length ++ w)) = w := by
    unfold hyp
    by_cases h : 0 < (byt (bas l)).length
    · rw [if_pos h, if_pos h, ← List.drop_drop, List.drop_left]
      rfl
    · rw [if_neg h, if_neg h, List.length_eq_zero_iff.1 (show (byt (bas l)).length = 0 by omega)]
      rfl
  rw [hrest, hlen, hd, y2]
  simp only
  rw [if_pos h1]

end Go.Proofs.Ytljgmgbjfjhjmaa.Pny
