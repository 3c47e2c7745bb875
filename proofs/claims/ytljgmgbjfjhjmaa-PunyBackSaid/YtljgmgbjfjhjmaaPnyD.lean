/- Signs as letters: each row has one text; how long it is. -/
import Derived.Test.YtljgmgbjfjhjmaaPnyC
namespace Go.Proofs.Ytljgmgbjfjhjmaa.Pny
open Go.RowKit
set_option linter.unusedVariables false
set_option linter.unusedSimpArgs false

/-! Each row is built in one way. -/
/-- The greatest sign so far is c, and stands last ahead of the place p. -/
structure Top (x : Stt) : Prop where
  le : ∀ z ∈ x.out, z ≤ x.c
  p : x.p ≤ x.out.length
  lt : ∀ z ∈ x.out.drop x.p, z < x.c
/-- A sign was put in. -/
structure Put (x : Stt) : Prop extends Top x where
  one : ∃ a b, x.out = a ++ x.c :: b ∧ x.p = a.length + 1

theorem put_step {x : Stt} (h : Top x) (d : Nat) : Put (stD x d) ∧ x.c ≤ (stD x d).c := by
  have hm : (x.p + d) % (x.out.length + 1) < x.out.length + 1 := Nat.mod_lt _ (by omega)
  have hdm := Nat.div_add_mod (x.p + d) (x.out.length + 1)
  unfold stD
  generalize hk : (x.p + d) % (x.out.length + 1) = k at *
  generalize hq : (x.p + d) / (x.out.length + 1) = q at *
  have htl : (x.out.take k).length = k := by rw [List.length_take]; omega
  have hsub : ∀ z ∈ x.out.drop k, z < x.c + q := by
    intro z hz
    by_cases h0 : q = 0
    · subst h0
      have hpk : x.p ≤ k := by omega
      have : z ∈ x.out.drop x.p := by
        rw [show k = x.p + (k - x.p) by omega, ← List.drop_drop] at hz
        exact List.mem_of_mem_drop hz
      have := h.lt z this
      omega
    · have := h.le z (List.mem_of_mem_drop hz)
      omega
  refine ⟨⟨⟨fun z hz => ?_, ?_, ?_⟩, ⟨x.out.take k, x.out.drop k, rfl, by simp only [htl]⟩⟩, by simp only; omega⟩
  · simp only at hz ⊢
    rcases List.mem_append.1 hz with hz | hz
    · have := h.le z (List.mem_of_mem_take hz); omega
    · rcases List.mem_cons.1 hz with rfl | hz
      · omega
      · have := hsub z hz; omega
  · simp only [List.length_append, List.length_cons, htl]
    omega
  · simp only
    intro z hz
    rw [show k + 1 = (x.out.take k).length + 1 by rw [htl], ← List.drop_drop, List.drop_left] at hz
    exact hsub z hz

theorem run_top : ∀ (ds : List Nat) (x y : Stt), Top x → runD x ds = some y → Top y ∧ y.out.length = x.out.length + ds.length ∧ x.c ≤ y.c
  | [], x, y, h, hr => by
    obtain rfl : x = y := Option.some.inj hr
    exact ⟨h, by simp, Nat.le_refl _⟩
  | d :: r, x, y, h, hr => by
    have hr : (if okD x d = true then runD (stD x d) r else none) = some y := hr
    split at hr
    · obtain ⟨h1, h2⟩ := put_step h d
      obtain ⟨k1, k2, k3⟩ := run_top r (stD x d) y h1.toTop hr
      refine ⟨k1, ?_, by omega⟩
      rw [k2, stD_len, List.length_cons]
      omega
    · cases hr

theorem put_same {x y : Stt} (hx : Put x) (hy : Put y) (h : x.out = y.out) : x = y := by
  obtain ⟨a, b, e1, e2⟩ := hx.one
  obtain ⟨a', b', e3, e4⟩ := hy.one
  have hc : x.c = y.c := by
    have h1 := hx.le y.c (by rw [h, e3]; simp)
    have h2 := hy.le x.c (by rw [← h, e1]; simp)
    omega
  have key : ∀ (u v : Stt), u.out = v.out → u.c = v.c → (∀ z ∈ u.out.drop u.p, z < u.c) → (∃ a b, v.out = a ++ v.c :: b ∧ v.p = a.length + 1) → v.p ≤ u.p := by
    intro u v ho hcc hlt ⟨a, b, f1, f2⟩
    apply Classical.byContradiction
    intro hn
    have hm : v.c ∈ u.out.drop u.p := by
      rw [ho, f1, List.drop_append_of_le_length (by omega)]
      simp
    have := hlt _ hm
    omega
  have h1 := key x y h hc hx.lt hy.one
  have h2 := key y x h.symm hc.symm hy.lt hx.one
  cases x; cases y
  simp only at h hc h1 h2
  subst h hc
  have : ‹Nat› = ‹Nat› := rfl
  congr 1
  omega

theorem step_back {x : Stt} (d : Nat) : (stD x d).out.take ((stD x d).p - 1) ++ (stD x d).out.drop (stD x d).p = x.out := by
  have hm : (x.p + d) % (x.out.length + 1) < x.out.length + 1 := Nat.mod_lt _ (by omega)
  unfold stD
  generalize (x.p + d) % (x.out.length + 1) = k at *
  have htl : (x.out.take k).length = k := by rw [List.length_take]; omega
  simp only [Nat.add_sub_cancel]
  have e1 : (x.out.take k ++ (x.c + (x.p + d) / (x.out.length + 1)) :: x.out.drop k).take k = x.out.take k := by
    conv => lhs; rw [← htl]
    rw [htl]
    exact List.take_left' htl
  have e2 : (x.out.take k ++ (x.c + (x.p + d) / (x.out.length + 1)) :: x.out.drop k).drop (k + 1) = x.out.drop k := by
    rw [← List.drop_drop, List.drop_left' htl]
    rfl
  rw [e1, e2, List.take_append_drop]

theorem runD_snoc {x y : Stt} {ds : List Nat} {d : Nat} (h : runD x (ds ++ [d]) = some y) : ∃ u, runD x ds = some u ∧ y = stD u d := by
  rw [runD_app] at h
  cases hu : runD x ds with
  | none => rw [hu] at h; cases h
  | some u =>
    rw [hu] at h
    have h : (if okD u d = true then some (stD u d) else none) = some y := h
    split at h
    · exact ⟨u, rfl, (Option.some.inj h).symm⟩
    · cases h

theorem run_one {x : Stt} (hx : Top x) : ∀ (n : Nat) (ds es : List Nat) (y z : Stt), ds.length = n → runD x ds = some y → runD x es = some z → y.out = z.out → ds = es ∧ y = z
  | 0, ds, es, y, z, hn, h1, h2, ho => by
    have k1 := (run_top ds x y hx h1).2.1
    have k2 := (run_top es x z hx h2).2.1
    rw [ho] at k1
    obtain rfl : ds = [] := List.length_eq_zero_iff.1 hn
    obtain rfl : es = [] := List.length_eq_zero_iff.1 (by simp only [List.length_nil] at k1; omega)
    exact ⟨rfl, Option.some.inj (h1.symm.trans h2)⟩
  | n + 1, ds, es, y, z, hn, h1, h2, ho => by
    have k1 := (run_top ds x y hx h1).2.1
    have k2 := (run_top es x z hx h2).2.1
    rw [ho] at k1
    rcases List.eq_nil_or_concat ds with rfl | ⟨ds, d, e1⟩
    · simp at hn
    rcases List.eq_nil_or_concat es with rfl | ⟨es, e, e2⟩
    · simp only [List.length_nil] at k2; omega
    rw [List.concat_eq_append] at e1 e2
    subst e1 e2
    obtain ⟨u, u1, u2⟩ := runD_snoc h1
    obtain ⟨v, v1, v2⟩ := runD_snoc h2
    have tu := (run_top ds x u hx u1).1
    have tv := (run_top es x v hx v1).1
    have hyz : y = z := put_same (by rw [u2]; exact (put_step tu d).1) (by rw [v2]; exact (put_step tv e).1) ho
    have huv : u.out = v.out := by
      rw [← step_back (x := u) d, ← step_back (x := v) e, ← u2, ← v2, hyz]
    obtain ⟨i1, i2⟩ := run_one hx n ds es u v (by simpa using hn) u1 v1 huv
    subst i1 i2
    have hde : d = e := by
      have hs : stD u d = stD u e := by rw [← u2, ← v2, hyz]
      have q1 := Nat.div_add_mod (u.p + d) (u.out.length + 1)
      have q2 := Nat.div_add_mod (u.p + e) (u.out.length + 1)
      unfold stD at hs
      simp only [Stt.mk.injEq] at hs
      obtain ⟨_, s2, s3⟩ := hs
      have s2' : (u.p + d) % (u.out.length + 1) = (u.p + e) % (u.out.length + 1) := by omega
      have s3' : (u.p + d) / (u.out.length + 1) = (u.p + e) / (u.out.length + 1) := by omega
      rw [s2', s3'] at q1
      omega
    exact ⟨by rw [hde], hyz⟩

theorem top_bas (a : List Nat) (h : ∀ z ∈ a, z < 128) : Top ⟨a, 0, 128⟩ := ⟨fun z hz => Nat.le_of_lt (h z hz), Nat.zero_le _, fun z hz => h z hz⟩

theorem stD_c {x : Stt} (h : 128 ≤ x.c) (d : Nat) : 128 ≤ (stD x d).c := Nat.le_trans h (Nat.le_add_right _ _)

theorem run_bas : ∀ (ds : List Nat) (x y : Stt), 128 ≤ x.c → runD x ds = some y → bas y.out = bas x.out ∧ (∀ z ∈ y.out, z ∈ x.out ∨ okC z = true) ∧ (ds ≠ [] → y.out.length ≤ 255)
  | [], x, y, hc, h => by
    obtain rfl : x = y := Option.some.inj h
    exact ⟨rfl, fun z hz => .inl hz, fun h => absurd rfl h⟩
  | d :: r, x, y, hc, h => by
    have h : (if okD x d = true then runD (stD x d) r else none) = some y := h
    split at h
    · rename_i hok
      obtain ⟨_, _, o3, o4⟩ := okD_le hok
      obtain ⟨h1, h2, h3⟩ := run_bas r (stD x d) y (stD_c hc d) h
      refine ⟨?_, fun z hz => ?_, fun _ => ?_⟩
      · rw [h1]
        unfold bas stD
        simp only [List.filter_append]
        rw [List.filter_cons, if_neg (by have h9 := stD_c hc d; unfold stD at h9; simp only at h9; rw [decide_eq_true_eq]; omega), ← List.filter_append, List.take_append_drop]
      · rcases h2 z hz with hz | hz
        · unfold stD at hz
          simp only at hz
          rcases List.mem_append.1 hz with hz | hz
          · exact .inl (List.mem_of_mem_take hz)
          · rcases List.mem_cons.1 hz with rfl | hz
            · exact .inr o4
            · exact .inl (List.mem_of_mem_drop hz)
        · exact .inr hz
      · by_cases hr : r = []
        · subst hr
          obtain rfl : stD x d = y := Option.some.inj h
          rw [stD_len]; omega
        · exact h3 hr
    · cases h

/-- What is read is written so, but for large letters among the digits. -/
theorem enc_dec {s : List UInt8} {l : List Nat} (hs : s.length ≤ 400000) (h : decP s = some l) : mayP l = true ∧ ∃ a w, s = a ++ (hyp a.length ++ w) ∧ encP l = a ++ (hyp a.length ++ w.map low) ∧ a.length ≤ l.length := by
  unfold decP at h
  split at h
  · rename_i hall
    split at h
    · rename_i l' hd
      split at h
      · rename_i h255
        obtain rfl := Option.some.inj h
        have hcut : cutD s = 0 ∨ (cutD s < s.length ∧ s.getD (cutD s) 0 = 45 ∧ 1 ≤ cutD s) := by
          rcases cutG_spec s 0 0 with e | ⟨j, e1, e2, e3, e4⟩
          · exact .inl e
          · have e1 : cutD s = j := by unfold cutD; rw [e1, Nat.zero_add]
            exact .inr ⟨by rw [e1]; exact e2, by rw [e1]; exact e3, by omega⟩
        generalize hk : cutD s = k at *
        generalize ha : s.take k = a at *
        generalize hw : (if 0 < k then s.drop (k + 1) else s) = w at *
        have hka : a.length = k := by
          rw [← ha, List.length_take]
          rcases hcut with e | ⟨e, _⟩ <;> omega
        have hsw : s = a ++ (hyp a.length ++ w) := by
          rw [hka, ← ha, ← hw]
          unfold hyp
          rcases hcut with e | ⟨e1, e2, e3⟩
          · subst e; simp
          · rw [if_pos (by omega), if_pos (by omega)]
            have := drop_cons s k e1
            rw [e2] at this
            show s = s.take k ++ (45 :: s.drop (k + 1))
            rw [← this, List.take_append_drop]
        have hwl : w.length ≤ 400000 := by
          have := congrArg List.length hsw
          rw [List.length_append, List.length_append] at this
          omega
        obtain ⟨ds, y, r1, r2, r3⟩ := decT_is s.length ⟨a.map UInt8.toNat, 0, 128⟩ 72 true w l' hwl hd
        have hal : ∀ z ∈ a.map UInt8.toNat, z < 128 := by
          intro z hz
          obtain ⟨c, hc, rfl⟩ := List.mem_map.1 hz
          simpa using List.all_eq_true.1 hall c hc
        obtain ⟨b1, b2, b3⟩ := run_bas ds _ y (Nat.le_refl _) r1
        have hbas : bas l' = a.map UInt8.toNat := by
          rw [← r2, b1]
          exact List.filter_eq_self.2 fun z hz => by simpa using hal z hz
        have hok : ∀ z ∈ l', okC z = true := by
          intro z hz
          rw [← r2] at hz
          rcases b2 z hz with hz | hz
          · have := hal z hz
            unfold okC
            rw [decide_eq_true (by omega), decide_eq_false (by omega)]
            rfl
          · exact hz
        have hmay : mayP l' = true := by
          unfold mayP
          rw [decide_eq_true h255, List.all_eq_true.2 hok]
          rfl
        refine ⟨hmay, a, w, hsw, ?_, ?_⟩
        · obtain ⟨y', y1, y2⟩ := enc_run l' h255 hok (l'.length + 1) 128 (bas l').length 0 ⟨bas l', 0, 128⟩ (by omega) rfl ⟨rfl, Nat.le_refl _, by simp only; omega⟩
          rw [← hbas] at r1
          obtain ⟨hds, _⟩ := run_one (top_bas (bas l') (bas_lt l')) ds.length ds _ y y' rfl r1 y1 (by rw [r2, y2])
          unfold encP
          rw [← hds]
          have hba : byt (bas l') = a := by
            rw [hbas]
            unfold byt
            rw [List.map_map]
            conv => rhs; rw [← List.map_id a]
            apply List.map_congr_left
            intro c _
            simp only [Function.comp, id, UInt8.ofNat_toNat]
          have hbl : (bas l').length = a.length := by rw [hbas, List.length_map]
          simp only [List.length_map] at r3
          rw [hba, hbl, r3]
        · have := (run_top ds _ y (top_bas _ hal) r1).2.1
          rw [r2] at this
          simp only [List.length_map] at this
          omega
      · cases h
    · cases h
  · cases h

/-! How long a number's letters are. -/
theorem adG_le : ∀ (m f e k : Nat), m ≤ f → e ≤ 455 * 35 ^ m → adG f e k ≤ k + 36 * m + 35
  | m, 0, e, k, hm, he => by
    obtain rfl : m = 0 := by omega
    unfold adG
    have : 36 * e / (e + 38) ≤ 35 := by
      rw [Nat.div_le_iff_le_mul_add_pred (by omega)]
      omega
    omega
  | m, f + 1, e, k, hm, he => by
    show (if e > 455 then adG f (e / 35) (k + 36) else k + 36 * e / (e + 38)) ≤ _
    split
    · rename_i h
      obtain ⟨m, rfl⟩ : ∃ j, m = j + 1 := ⟨m - 1, by
        cases m with
        | zero => simp at he; omega
        | succ m => omega⟩
      have := adG_le m f (e / 35) (k + 36) (by omega) (by
        rw [Nat.div_le_iff_le_mul_add_pred (by omega)]
        rw [Nat.pow_succ] at he
        omega)
      omega
    · rename_i h
      have : 36 * e / (e + 38) ≤ 35 := by
        rw [Nat.div_le_iff_le_mul_add_pred (by omega)]
        omega
      omega
theorem adp_le {d n : Nat} (f : Bool) (hd : d ≤ 284098560) : adp d n f ≤ 179 := by
  have he : adE d n f ≤ 455 * 35 ^ 4 := by
    unfold adE
    have h1 : (if f = true then d / 700 else d / 2) ≤ 142049280 := by split <;> omega
    generalize (if f = true then d / 700 else d / 2) = e at *
    have h2 : e / n ≤ e := Nat.div_le_self e n
    have : (455 * 35 ^ 4 : Nat) = 682784375 := by decide
    omega
  exact adG_le 4 20 _ 0 (by omega) he

theorem quo_le {t d B : Nat} (h1 : 1 ≤ t) (h2 : t ≤ 26) (h : d < 10 * B + 36) : (d - t) / (36 - t) ≤ B := by
  have hm : t * B ≤ 26 * B := Nat.mul_le_mul_right _ h2
  have : d - t < (B + 1) * (36 - t) := by
    have e : (B + 1) * (36 - t) = 36 * B + 36 - t * B - t := by
      rw [Nat.mul_sub, Nat.add_mul, Nat.one_mul, Nat.mul_comm B 36, Nat.add_mul, Nat.one_mul, Nat.mul_comm B t]
      omega
    rw [e]
    omega
  exact Nat.le_of_lt_succ (by rw [Nat.div_lt_iff_lt_mul (by omega)]; exact this)

theorem leB_len {b : Nat} (hb : b ≤ 262) {d : Nat} (hd : d ≤ 284065919) : (leB b 40 0 d).length ≤ 8 := by
  have step : ∀ (f j d B m : Nat), d < 10 * B + 36 → (∀ q, q ≤ B → (leB b f (j + 1) q).length ≤ m) → (leB b (f + 1) j d).length ≤ m + 1 := by
    intro f j d B m hd h
    obtain ⟨t1, t2⟩ := bnd_bd j b
    rw [leB_succ]
    split
    · simp
    · rw [List.length_cons]
      have := h _ (quo_le t1 t2 hd)
      omega
  have l7 : ∀ q, q ≤ 25 → (leB b 33 7 q).length ≤ 1 := by
    intro q hq
    have : bnd 7 b = 26 := by unfold bnd; omega
    rw [leB_succ, if_pos (by omega)]
    simp
  have l6 : ∀ q, q ≤ 281 → (leB b 34 6 q).length ≤ 2 := fun q hq => step 33 6 q 25 1 (by omega) l7
  have l5 : ∀ q, q ≤ 2837 → (leB b 35 5 q).length ≤ 3 := fun q hq => step 34 5 q 281 2 (by omega) l6
  have l4 : ∀ q, q ≤ 28403 → (leB b 36 4 q).length ≤ 4 := fun q hq => step 35 4 q 2837 3 (by omega) l5
  have l3 : ∀ q, q ≤ 284063 → (leB b 37 3 q).length ≤ 5 := fun q hq => step 36 3 q 28403 4 (by omega) l4
  have l2 : ∀ q, q ≤ 2840656 → (leB b 38 2 q).length ≤ 6 := fun q hq => step 37 2 q 284063 5 (by omega) l3
  have l1 : ∀ q, q ≤ 28406589 → (leB b 39 1 q).length ≤ 7 := fun q hq => step 38 1 q 2840656 6 (by omega) l2
  exact step 39 0 d 28406589 7 (by omega) l1

theorem wrT_len : ∀ (ds : List Nat) (x y : Stt) (b : Nat) (f : Bool), 128 ≤ x.c → b ≤ 262 → runD x ds = some y → (wrT ds x.out.length b f).length ≤ 8 * ds.length
  | [], x, y, b, f, hc, hb, h => Nat.zero_le _
  | d :: r, x, y, b, f, hc, hb, h => by
    have h : (if okD x d = true then runD (stD x d) r else none) = some y := h
    split at h
    · rename_i hok
      obtain ⟨o1, o2, o3, o4⟩ := okD_le hok
      have h1 := leB_len hb (o2 hc)
      have ha := adp_le (n := x.out.length + 1) f o1
      have h2 := wrT_len r (stD x d) y (adp d (x.out.length + 1) f) false (stD_c hc d) (by omega) h
      rw [stD_len] at h2
      show (leB b 40 0 d ++ _).length ≤ _
      rw [List.length_append, List.length_cons]
      omega
    · cases h

theorem enc_shape {l : List Nat} (h : mayP l = true) : ∃ w, encP l = byt (bas l) ++ (hyp (bas l).length ++ w) ∧ (∀ c ∈ w, ∃ k, k < 36 ∧ c = chr k) ∧ l.length - (bas l).length ≤ w.length ∧ w.length ≤ 8 * (l.length - (bas l).length) ∧ (bas l).length ≤ l.length := by
  unfold mayP at h
  rw [Bool.and_eq_true, decide_eq_true_eq, List.all_eq_true] at h
  obtain ⟨h1, h2⟩ := h
  obtain ⟨y, y1, y2⟩ := enc_run l h1 h2 (l.length + 1) 128 (bas l).length 0 ⟨bas l, 0, 128⟩ (by omega) rfl ⟨rfl, Nat.le_refl _, by simp only; omega⟩
  have hle : (bas l).length ≤ l.length := List.length_filter_le _ _
  have hw := wr_dig (encE l (l.length + 1) 128 (bas l).length 0) (bas l).length 72 true
  have hl := wr_len_le (encE l (l.length + 1) 128 (bas l).length 0) (bas l).length 72 true
  have h8 := wrT_len (encE l (l.length + 1) 128 (bas l).length 0) _ y 72 true (Nat.le_refl _) (by omega) y1
  obtain ⟨_, ht, _⟩ := run_top _ _ _ (top_bas (bas l) (bas_lt l)) y1
  rw [y2] at ht
  simp only at ht h8
  refine ⟨_, rfl, hw, by omega, by omega, hle⟩

end Go.Proofs.Ytljgmgbjfjhjmaa.Pny
