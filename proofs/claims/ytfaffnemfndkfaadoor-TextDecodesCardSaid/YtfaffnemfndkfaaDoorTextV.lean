/- What the program's decoding is: the signs of a row of bytes, one behind the other. -/
import Derived.Test.YtfaffnemfndkfaaDoorTextK
import Derived.Test.YtfaffnemfndkfaaDoorTextU
namespace Go.Proofs.YtfaffnemfndkfaaDoor
open Go.RowKit U8
set_option linter.unusedVariables false
set_option linter.unusedSimpArgs false

theorem dAt_nx {l : List UInt8} {pos : Nat} (h : pos < l.length) : dAt l pos = if (nx (l.drop pos)).2.2 = true then ((nx (l.drop pos)).1, (nx (l.drop pos)).2.1) else (65533, 1) := by
  have hne : l.drop pos ≠ [] := by
    intro e
    have := congrArg List.length e
    simp only [List.length_drop, List.length_nil] at this
    omega
  have h1 := Lib.decodeL_drop ⟨⟨l⟩⟩ pos
  unfold dAt
  rw [← h1]
  exact nx_decodeL hne

theorem sgn_okC {c : Nat} (h : okC c) : sgn (c : Int) = c := by
  unfold okC at h
  rw [sgn_ok (by omega)]
  omega

theorem bN_take {l : List UInt8} {n i : Nat} (h : i < n) : bN (l.take n) i = bN l i := by
  unfold bN
  simp only [List.getD, List.getElem?_take, if_pos h]
theorem bN_drop (l : List UInt8) (n i : Nat) : bN (l.drop n) i = bN l (n + i) := by
  unfold bN
  simp only [List.getD, List.getElem?_drop]

theorem full_take {l : List UInt8} {n : Nat} (h : n < l.length) : fullF (l.take (n + 1)) = true ↔
    Lib.firstT (bN l 0) % 8 ≤ n + 1 ∨ (1 ≤ n ∧ (bN l 1 < Lib.accLo (Lib.firstT (bN l 0) / 16) ∨ Lib.accHi (Lib.firstT (bN l 0) / 16) < bN l 1)) ∨ (2 ≤ n ∧ (bN l 2 < 128 ∨ 191 < bN l 2)) := by
  unfold fullF
  have e0 : bN (l.take (n + 1)) 0 = bN l 0 := bN_take (by omega)
  have e1 : 1 ≤ n → bN (l.take (n + 1)) 1 = bN l 1 := fun _ => bN_take (by omega)
  have e2 : 2 ≤ n → bN (l.take (n + 1)) 2 = bN l 2 := fun _ => bN_take (by omega)
  have el : (l.take (n + 1)).length = n + 1 := by rw [List.length_take]; omega
  rw [e0, el]
  generalize Lib.firstT (bN l 0) % 8 = sz
  generalize Lib.accLo (Lib.firstT (bN l 0) / 16) = lo
  generalize Lib.accHi (Lib.firstT (bN l 0) / 16) = hi
  generalize bN (l.take (n + 1)) 1 = x1 at *
  generalize bN (l.take (n + 1)) 2 = x2 at *
  repeat' split
  all_goals simp only [true_iff, false_iff, Bool.false_eq_true]
  all_goals omega

theorem bgo_to (l : List UInt8) : ∀ f n m, n ≤ m → n + f = l.length → m ≤ l.length → (∀ j, n ≤ j → j < m → ¬ fullF (l.take (j + 1)) = true) → (m < l.length → fullF (l.take (m + 1)) = true) → bgo l f n = m
  | 0, n, m, h1, h2, h3, _, _ => by unfold bgo; omega
  | f + 1, n, m, h1, h2, h3, h4, h5 => by
    unfold bgo
    by_cases e : n = m
    · subst e
      rw [if_neg]
      rw [h5 (by omega)]
      simp
    · have := h4 n (Nat.le_refl _) (by omega)
      rw [if_pos ⟨by omega, by simpa using this⟩]
      exact bgo_to l f (n + 1) m (by omega) (by omega) h3 (fun j hj => h4 j (by omega)) h5

theorem begun_none {l : List UInt8} (hne : l ≠ []) {k : Nat} (e : nx l = (65533, k, false)) : begunF l = k := by
  have hn : 1 ≤ l.length := List.length_pos_iff.2 hne
  unfold begunF
  unfold nx at e
  rcases firstT_cls (bN l 0) with ⟨c, f⟩ | ⟨c, f⟩ | ⟨f, c⟩
  · rw [stepN_a f] at e; simp at e
  · rw [stepN_b f] at e
    simp only [Prod.mk.injEq, true_and, and_true] at e
    subst e
    refine bgo_to l _ 1 1 (Nat.le_refl _) (by omega) hn (fun j h1 h2 => by omega) fun h => (full_take h).2 (.inl ?_)
    rw [f]; omega
  · rw [stepN_c f] at e
    obtain ⟨sz, lo, hi, e1, e2, e3, hlo, hhi, hs⟩ := firstT_tab f
    rw [e1, e2, e3] at e
    have ft : ∀ n, n < l.length → (fullF (l.take (n + 1)) = true ↔ sz ≤ n + 1 ∨ (1 ≤ n ∧ (bN l 1 < lo ∨ hi < bN l 1)) ∨ (2 ≤ n ∧ (bN l 2 < 128 ∨ 191 < bN l 2))) := by
      intro n h
      rw [full_take h, e1, e2, e3]
    unfold U8.stepG at e
    split at e
    · simp only [Prod.mk.injEq, true_and, and_true] at e
      subst e
      refine bgo_to l _ 1 1 (Nat.le_refl _) (by omega) hn (fun j h1 h2 => by omega) fun h => (ft 1 h).2 (by omega)
    · split at e
      · simp at e
      · split at e
        · simp only [Prod.mk.injEq, true_and, and_true] at e
          subst e
          refine bgo_to l _ 1 2 (by omega) (by omega) (by omega) (fun j h1 h2 => ?_) fun h => (ft 2 h).2 (by omega)
          have : j = 1 := by omega
          subst this
          rw [ft 1 (by omega)]; omega
        · split at e
          · simp at e
          · split at e
            · simp only [Prod.mk.injEq, true_and, and_true] at e
              subst e
              refine bgo_to l _ 1 3 (by omega) (by omega) (by omega) (fun j h1 h2 => ?_) fun h => (ft 3 h).2 (by omega)
              have : j = 1 ∨ j = 2 := by omega
              rcases this with rfl | rfl
              · rw [ft 1 (by omega)]; omega
              · rw [ft 2 (by omega)]; omega
            · simp at e

theorem begun_fffd (r : List UInt8) : begunF (encN 65533 ++ r) = 2 := by
  have e : encN 65533 ++ r = 239 :: 191 :: 189 :: r := rfl
  rw [e]
  unfold begunF
  refine bgo_to _ _ 1 2 (by omega) (by simp only [List.length_cons]; omega) (by simp) (fun j h1 h2 => ?_) fun _ => ?_
  · have : j = 1 := by omega
    subst this
    show ¬ fullF [239, 191] = true
    decide
  · show fullF [239, 191, 189] = true
    decide

theorem dgo_fix (l : List UInt8) : ∀ f pos next out, l.length ≤ pos + f → pos ≤ l.length → next ≤ l.length →
    (next ≤ pos → dgo l f pos next out = out ++ fixF (l.drop pos)) ∧ (pos < next → (∀ i, pos ≤ i → i < next → 128 ≤ bN l i ∧ bN l i ≤ 191) → dgo l f pos next out = out ++ fixF (l.drop next))
  | 0, pos, next, out, h1, h2, h3 => by
    have : pos = l.length := by omega
    subst this
    refine ⟨fun _ => ?_, fun h => by omega⟩
    rw [List.drop_length]
    simp [dgo, fixF, signsN_nil, join]
  | f + 1, pos, next, out, h1, h2, h3 => by
    unfold dgo
    by_cases hlt : pos < l.length
    · rw [if_pos hlt]
      have hd := dAt_nx hlt
      have hne : l.drop pos ≠ [] := by
        intro e
        have := congrArg List.length e
        simp only [List.length_drop, List.length_nil] at this
        omega
      constructor
      · intro hn
        rw [if_neg (by omega)]
        have hfix : fixF (l.drop pos) = encN (nx (l.drop pos)).1 ++ fixF (l.drop (pos + (nx (l.drop pos)).2.1)) := by
          unfold fixF
          rw [signsN_step hne, join_cons, List.drop_drop]
        rcases nx_shape hne with ⟨c, e, hc, hl⟩ | ⟨k, e, k1, k2, k3, k4, k5⟩
        · rw [e] at hd hfix
          simp only [if_true] at hd hfix
          rw [hd]
          simp only
          have hp := nx_pos hne
          rw [e, List.length_drop] at hp
          simp only at hp
          have hs := sgn_okC hc
          by_cases h : c = 65533
          · rw [if_pos h, hs]
            have hb : begunF (l.drop pos) = 2 := by rw [hl, h]; exact begun_fffd _
            have h3' : (encN c).length = 3 := by rw [h]; rfl
            have ih := (dgo_fix l f (pos + (encN c).length) (pos + begunF (l.drop pos)) (out ++ encN c) (by omega) (by omega) (by omega)).1 (by omega)
            rw [ih, hfix, List.append_assoc]
          · rw [if_neg h, hs]
            have ih := (dgo_fix l f (pos + (encN c).length) next (out ++ encN c) (by omega) (by omega) h3).1 (by omega)
            rw [ih, hfix, List.append_assoc]
        · rw [e] at hd hfix
          simp only [Bool.false_eq_true, if_false] at hd hfix
          rw [hd]
          simp only [if_true]
          rw [begun_none hne e]
          rw [List.length_drop] at k2
          have hs : encN (sgn ((65533 : Nat) : Int)) = encN 65533 := rfl
          rw [hs]
          by_cases hk : k = 1
          · subst hk
            have ih := (dgo_fix l f (pos + 1) (pos + 1) (out ++ encN 65533) (by omega) (by omega) (by omega)).1 (by omega)
            rw [ih, hfix, List.append_assoc]
          · have ih := (dgo_fix l f (pos + 1) (pos + k) (out ++ encN 65533) (by omega) (by omega) (by omega)).2 (by omega) (fun i i1 i2 => by
              have q1 := k4 (i - pos) (by omega)
              have q2 := k5 (i - pos) (by omega) (by omega)
              rw [bN_drop, show pos + (i - pos) = i by omega] at q1 q2
              exact ⟨q1, q2⟩)
            rw [ih, hfix, List.append_assoc]
      · intro hn hb
        rw [if_pos hn]
        have hb0 := hb pos (Nat.le_refl _) hn
        have hnx : nx (l.drop pos) = (65533, 1, false) := by
          rw [drop_cons l pos hlt]
          exact nx_none (.inl ⟨hb0.1, by have := hb0.2; unfold bN at this; omega⟩)
        rw [hnx] at hd
        simp only [Bool.false_eq_true, if_false] at hd
        rw [hd]
        simp only
        by_cases hq : pos + 1 < next
        · exact (dgo_fix l f (pos + 1) next out (by omega) (by omega) h3).2 hq fun i i1 i2 => hb i (by omega) i2
        · have : next = pos + 1 := by omega
          rw [this]
          exact (dgo_fix l f (pos + 1) (pos + 1) out (by omega) (by omega) (by omega)).1 (Nat.le_refl _)
    · rw [if_neg hlt]
      have : pos = l.length := by omega
      subst this
      refine ⟨fun _ => ?_, fun h => by omega⟩
      rw [List.drop_length]
      simp [fixF, signsN_nil, join]

theorem decF_eq (l : List UInt8) : decF l = fixF l := by
  have := (dgo_fix l l.length 0 0 [] (by omega) (Nat.zero_le _) (Nat.zero_le _)).1 (Nat.le_refl _)
  simpa [decF] using this

def natI (cs : List Nat) : List Int := cs.map fun c : Nat => (c : Int)

theorem sgo_join : ∀ (cs : List Nat) (_ : ∀ c ∈ cs, okC c) (f : Nat) (pre : List UInt8) (L : List Int), (join cs).length ≤ f → sgo (pre ++ join cs) f pre.length L = L ++ natI cs
  | [], _, f, pre, L, _ => by
    have e : pre ++ join [] = pre := by simp [join]
    rw [e]
    cases f with
    | zero => simp [sgo, natI]
    | succ f => unfold sgo; rw [if_neg (by omega)]; simp [natI]
  | c :: cs, h, f, pre, L, hf => by
    have hl := (U8.enc_len c).1
    rw [join_cons, List.length_append] at hf
    obtain ⟨f', rfl⟩ : ∃ f', f = f' + 1 := ⟨f - 1, by omega⟩
    have hc := h c (.head _)
    have hlt : pre.length < (pre ++ join (c :: cs)).length := by
      rw [join_cons, List.length_append, List.length_append]; omega
    have hd := dAt_nx hlt
    have he : (pre ++ join (c :: cs)).drop pre.length = encN c ++ join cs := by rw [List.drop_left, join_cons]
    rw [he, nx_enc hc] at hd
    simp only [if_true] at hd
    unfold sgo
    rw [if_pos hlt, hd]
    simp only
    have ih := sgo_join cs (fun x hx => h x (.tail _ hx)) f' (pre ++ encN c) (L ++ [(c : Int)]) (by omega)
    rw [join_cons, ← List.append_assoc, ← List.length_append, ih, List.append_assoc]
    rfl

theorem sigF_eq (l : List UInt8) : sigF (decF l) = natI (signsN l) := by
  rw [decF_eq]
  have := sgo_join (signsN l) (U8.signs_ok l) (fixF l).length [] [] (Nat.le_refl _)
  simpa [sigF, fixF] using this

theorem valid_eq (l : List UInt8) : Lib.validD l = decide (fixF l = l) := by
  rw [Bool.eq_iff_iff, valid_iff, decide_eq_true_eq]

end Go.Proofs.YtfaffnemfndkfaaDoor
