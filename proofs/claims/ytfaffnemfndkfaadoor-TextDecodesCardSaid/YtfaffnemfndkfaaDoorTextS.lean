/- The document's own decoding: Next, Signs, Join, Decode, Right. -/
import Derived.Test.YtfaffnemfndkfaaDoorTextR
namespace Go.Proofs.YtfaffnemfndkfaaDoor
open Go.RowKit U8
set_option linter.unusedVariables false
set_option linter.unusedSimpArgs false

def nxV (l : List UInt8) : AV := .tu [.c (.int .i64 ((nx l).1 : Nat)), .c (.int .i64 ((nx l).2.1 : Nat)), .c (.bool (nx l).2.2)]

def NextAt (l : List UInt8) : Prop := ∃ hs lp fuel p, LpOK Ext0 Tryd.prog lp ∧ outcome Tryd.prog 26 (aBody Tryd.prog clN hs lp fuel 26 [.fs 1 l.length (byts l)] []) = some (nxV l, p) ∧ allP p

theorem nxV_of {l : List UInt8} {c k : Nat} {g : Bool} {c' k' : Int} (h : nx l = (c, k, g)) (hc : c' = (c : Int)) (hk : k' = (k : Int)) : AV.tu [.c (.int .i64 c'), .c (.int .i64 k'), .c (.bool g)] = nxV l := by
  unfold nxV
  rw [h, hc, hk]

theorem ld_of {b0 sz lo hi : Nat} (hs : sz = 2 ∧ 194 ≤ b0 ∧ b0 < 224 ∧ lo = 128 ∧ hi = 191 ∨ sz = 3 ∧ 224 ≤ b0 ∧ b0 < 240 ∧ (b0 = 224 → lo = 160) ∧ (b0 ≠ 224 → lo = 128) ∧ (b0 = 237 → hi = 159) ∧ (b0 ≠ 237 → hi = 191) ∨ sz = 4 ∧ 240 ≤ b0 ∧ b0 ≤ 244 ∧ (b0 = 240 → lo = 144) ∧ (b0 ≠ 240 → lo = 128) ∧ (b0 = 244 → hi = 143) ∧ (b0 ≠ 244 → hi = 191)) :
    ldK (b0 : Nat) = (sz : Int) ∧ ldLo (b0 : Nat) = (lo : Int) ∧ ldHi (b0 : Nat) = (hi : Int) := by
  refine ⟨?_, ?_, ?_⟩
  · unfold ldK; repeat' split
    all_goals omega
  · unfold ldLo; repeat' split
    all_goals omega
  · unfold ldHi; repeat' split
    all_goals omega

theorem next_at {l : List UInt8} (h0 : 0 < l.length) (hl : l.length ≤ 1000000000) : NextAt l := by
  have hb0 := bN_lt l 0
  rcases firstT_cls (bN l 0) with ⟨c, f⟩ | ⟨c, f⟩ | ⟨f, c⟩
  · have e : nx l = (bN l 0, 1, true) := stepN_a f
    have k1 : ldK (bN l 0 : Nat) = 1 := by unfold ldK; rw [if_pos (by omega)]
    have k2 : ldLo (bN l 0 : Nat) = ((0 : Nat) : Int) := by unfold ldLo; rw [if_pos (by omega)]; rfl
    have k3 : ldHi (bN l 0 : Nat) = ((0 : Nat) : Int) := by unfold ldHi; rw [if_pos (by omega)]; rfl
    obtain ⟨h, p, er, hp⟩ := next1_all l 0 0 0 0 h0 k1 k2 k3 (.inl (by omega))
    refine ⟨_, _, _, _, lpBy_nil, er.trans ?_, hp⟩
    rw [← nxV_of (c' := ((l.getD 0 0).toNat : Nat)) (k' := 1) e rfl rfl]
  · have e : nx l = (65533, 1, false) := stepN_b f
    have k1 : ldK (bN l 0 : Nat) = 0 := by unfold ldK; rw [if_neg (by omega), if_pos (by omega)]
    have k2 : ldLo (bN l 0 : Nat) = ((0 : Nat) : Int) := by unfold ldLo; rw [if_pos (by omega)]; rfl
    have k3 : ldHi (bN l 0 : Nat) = ((0 : Nat) : Int) := by unfold ldHi; rw [if_pos (by omega)]; rfl
    obtain ⟨h, p, er, hp⟩ := next2_all l 0 0 0 0 h0 k1 k2 k3 (.inl (by omega))
    refine ⟨_, _, _, _, lpBy_nil, er.trans ?_, hp⟩
    rw [← nxV_of (c' := 65533) (k' := 1) e rfl rfl]
  · obtain ⟨sz, lo, hi, e1, e2, e3, hlo, hhi, hs⟩ := firstT_tab f
    have e : nx l = U8.stepG l.length (bN l 0) (bN l 1) (bN l 2) (bN l 3) sz lo hi := by
      unfold nx; rw [stepN_c f, e1, e2, e3]
    obtain ⟨k1, k2, k3⟩ := ld_of hs
    have hb1 := bN_lt l 1
    have hb2 := bN_lt l 2
    have hb3 := bN_lt l 3
    clear f c e1 e2 e3
    unfold U8.stepG at e
    have a1 : ∀ c : Int, accJ l c 1 = 64 * c + (bN l 1 : Nat) - 128 := fun c => rfl
    have a2 : ∀ c : Int, accJ l c 2 = 64 * (64 * c + (bN l 1 : Nat) - 128) + (bN l 2 : Nat) - 128 := fun c => rfl
    have a3 : ∀ c : Int, accJ l c 3 = 64 * (64 * (64 * c + (bN l 1 : Nat) - 128) + (bN l 2 : Nat) - 128) + (bN l 3 : Nat) - 128 := fun c => rfl
    -- how many rounds are good
    have g0 : ∀ n : Int, ∀ c : Int, ∀ j, j < 0 → GoodJ l n lo hi j ∧ 0 ≤ accJ l c j ∧ accJ l c j ≤ 1000000 := fun n c j h => absurd h (Nat.not_lt_zero _)
    have g1 : ∀ n : Int, 1 < n → ∀ c : Int, 0 ≤ c → c < 128 → ¬ (l.length < 2 ∨ bN l 1 < lo ∨ hi < bN l 1) → ∀ j, j < 1 → GoodJ l n lo hi j ∧ 0 ≤ accJ l c j ∧ accJ l c j ≤ 1000000 := by
      intro n hn c hc hc2 q j hj
      have : j = 0 := by omega
      subst this
      exact ⟨⟨by omega, by omega, show lo ≤ bN l 1 by omega, show bN l 1 ≤ hi by omega⟩, show 0 ≤ c by omega, show c ≤ 1000000 by omega⟩
    have g2 : ∀ n : Int, 2 < n → ∀ c : Int, 0 ≤ c → c < 128 → ¬ (l.length < 2 ∨ bN l 1 < lo ∨ hi < bN l 1) → ¬ (l.length < 3 ∨ bN l 2 < 128 ∨ 191 < bN l 2) → ∀ j, j < 2 → GoodJ l n lo hi j ∧ 0 ≤ accJ l c j ∧ accJ l c j ≤ 1000000 := by
      intro n hn c hc hc2 q q2 j hj
      by_cases hj0 : j < 1
      · exact g1 n (by omega) c hc hc2 q j hj0
      · have : j = 1 := by omega
        subst this
        rw [a1]
        exact ⟨⟨by omega, by omega, show 128 ≤ bN l 2 by omega, show bN l 2 ≤ 191 by omega⟩, by omega, by omega⟩
    have g3 : ∀ n : Int, 3 < n → ∀ c : Int, 0 ≤ c → c < 8 → ¬ (l.length < 2 ∨ bN l 1 < lo ∨ hi < bN l 1) → ¬ (l.length < 3 ∨ bN l 2 < 128 ∨ 191 < bN l 2) → ¬ (l.length < 4 ∨ bN l 3 < 128 ∨ 191 < bN l 3) → ∀ j, j < 3 → GoodJ l n lo hi j ∧ 0 ≤ accJ l c j ∧ accJ l c j ≤ 1000000 := by
      intro n hn c hc hc2 q q2 q3 j hj
      by_cases hj0 : j < 2
      · exact g2 n (by omega) c hc (by omega) q q2 j hj0
      · have : j = 2 := by omega
        subst this
        rw [a2]
        exact ⟨⟨by omega, by omega, show 128 ≤ bN l 3 by omega, show bN l 3 ≤ 191 by omega⟩, by omega, by omega⟩
    rcases hs with ⟨rfl, hs⟩ | ⟨rfl, hs⟩ | ⟨rfl, hs⟩
    · by_cases q1 : l.length < 2 ∨ bN l 1 < lo ∨ hi < bN l 1
      · rw [if_pos q1] at e
        have T := nx_ret l 2 lo hi ((bN l 0 % 32 : Nat) : Int) 0 hl (g0 2 _) (by omega) (show ¬ (0 + 1 < l.length ∧ lo ≤ bN l 1 ∧ bN l 1 ≤ hi) by omega)
        obtain ⟨h, p, er, hp⟩ := next42_all l lo hi ((bN l 0 % 32 : Nat) : Int) 0 h0 k1 k2 k3 (.inr rfl)
        refine ⟨_, _, _, _, lpBy_cons lpBy_nil List.nodup_nil T, er.trans ?_, hp⟩
        rw [← nxV_of (c' := 65533) (k' := 1) e rfl rfl]; rfl
      · rw [if_neg q1, if_pos (by omega)] at e
        have T := nx_exit l 2 lo hi ((bN l 0 % 32 : Nat) : Int) 1 hl (g1 2 (by omega) _ (by omega) (by omega) q1) (by omega)
        obtain ⟨h, p, er, hp⟩ := next32_all l lo hi ((bN l 0 % 32 : Nat) : Int) 1 h0 k1 k2 k3 (.inr rfl)
        refine ⟨_, _, _, _, lpBy_cons lpBy_nil List.nodup_nil T, er.trans ?_, hp⟩
        rw [← nxV_of (c' := accJ l ((bN l 0 % 32 : Nat) : Int) 1) (k' := 2) e (by rw [a1]; omega) rfl]
    · by_cases q1 : l.length < 2 ∨ bN l 1 < lo ∨ hi < bN l 1
      · rw [if_pos q1] at e
        have T := nx_ret l 3 lo hi ((bN l 0 % 16 : Nat) : Int) 0 hl (g0 3 _) (by omega) (show ¬ (0 + 1 < l.length ∧ lo ≤ bN l 1 ∧ bN l 1 ≤ hi) by omega)
        obtain ⟨h, p, er, hp⟩ := next43_all l lo hi ((bN l 0 % 16 : Nat) : Int) 0 h0 k1 k2 k3 (.inr rfl)
        refine ⟨_, _, _, _, lpBy_cons lpBy_nil List.nodup_nil T, er.trans ?_, hp⟩
        rw [← nxV_of (c' := 65533) (k' := 1) e rfl rfl]; rfl
      · rw [if_neg q1, if_neg (by omega)] at e
        by_cases q2 : l.length < 3 ∨ bN l 2 < 128 ∨ 191 < bN l 2
        · rw [if_pos q2] at e
          have T := nx_ret l 3 lo hi ((bN l 0 % 16 : Nat) : Int) 1 hl (g1 3 (by omega) _ (by omega) (by omega) q1) (by omega) (show ¬ (1 + 1 < l.length ∧ 128 ≤ bN l 2 ∧ bN l 2 ≤ 191) by omega)
          obtain ⟨h, p, er, hp⟩ := next43_all l lo hi ((bN l 0 % 16 : Nat) : Int) 1 h0 k1 k2 k3 (.inr rfl)
          refine ⟨_, _, _, _, lpBy_cons lpBy_nil List.nodup_nil T, er.trans ?_, hp⟩
          rw [← nxV_of (c' := 65533) (k' := 2) e rfl rfl]; rfl
        · rw [if_neg q2, if_pos (by omega)] at e
          have T := nx_exit l 3 lo hi ((bN l 0 % 16 : Nat) : Int) 2 hl (g2 3 (by omega) _ (by omega) (by omega) q1 q2) (by omega)
          obtain ⟨h, p, er, hp⟩ := next33_all l lo hi ((bN l 0 % 16 : Nat) : Int) 2 h0 k1 k2 k3 (.inr rfl)
          refine ⟨_, _, _, _, lpBy_cons lpBy_nil List.nodup_nil T, er.trans ?_, hp⟩
          rw [← nxV_of (c' := accJ l ((bN l 0 % 16 : Nat) : Int) 2) (k' := 3) e (by rw [a2]; omega) rfl]
    · by_cases q1 : l.length < 2 ∨ bN l 1 < lo ∨ hi < bN l 1
      · rw [if_pos q1] at e
        have T := nx_ret l 4 lo hi ((bN l 0 % 8 : Nat) : Int) 0 hl (g0 4 _) (by omega) (show ¬ (0 + 1 < l.length ∧ lo ≤ bN l 1 ∧ bN l 1 ≤ hi) by omega)
        obtain ⟨h, p, er, hp⟩ := next44_all l lo hi ((bN l 0 % 8 : Nat) : Int) 0 h0 k1 k2 k3 (.inr rfl)
        refine ⟨_, _, _, _, lpBy_cons lpBy_nil List.nodup_nil T, er.trans ?_, hp⟩
        rw [← nxV_of (c' := 65533) (k' := 1) e rfl rfl]; rfl
      · rw [if_neg q1, if_neg (by omega)] at e
        by_cases q2 : l.length < 3 ∨ bN l 2 < 128 ∨ 191 < bN l 2
        · rw [if_pos q2] at e
          have T := nx_ret l 4 lo hi ((bN l 0 % 8 : Nat) : Int) 1 hl (g1 4 (by omega) _ (by omega) (by omega) q1) (by omega) (show ¬ (1 + 1 < l.length ∧ 128 ≤ bN l 2 ∧ bN l 2 ≤ 191) by omega)
          obtain ⟨h, p, er, hp⟩ := next44_all l lo hi ((bN l 0 % 8 : Nat) : Int) 1 h0 k1 k2 k3 (.inr rfl)
          refine ⟨_, _, _, _, lpBy_cons lpBy_nil List.nodup_nil T, er.trans ?_, hp⟩
          rw [← nxV_of (c' := 65533) (k' := 2) e rfl rfl]; rfl
        · rw [if_neg q2, if_neg (by omega)] at e
          by_cases q3 : l.length < 4 ∨ bN l 3 < 128 ∨ 191 < bN l 3
          · rw [if_pos q3] at e
            have T := nx_ret l 4 lo hi ((bN l 0 % 8 : Nat) : Int) 2 hl (g2 4 (by omega) _ (by omega) (by omega) q1 q2) (by omega) (show ¬ (2 + 1 < l.length ∧ 128 ≤ bN l 3 ∧ bN l 3 ≤ 191) by omega)
            obtain ⟨h, p, er, hp⟩ := next44_all l lo hi ((bN l 0 % 8 : Nat) : Int) 2 h0 k1 k2 k3 (.inr rfl)
            refine ⟨_, _, _, _, lpBy_cons lpBy_nil List.nodup_nil T, er.trans ?_, hp⟩
            rw [← nxV_of (c' := 65533) (k' := 3) e rfl rfl]; rfl
          · rw [if_neg q3] at e
            have T := nx_exit l 4 lo hi ((bN l 0 % 8 : Nat) : Int) 3 hl (g3 4 (by omega) _ (by omega) (by omega) q1 q2 q3) (by omega)
            obtain ⟨h, p, er, hp⟩ := next34_all l lo hi ((bN l 0 % 8 : Nat) : Int) 3 h0 k1 k2 k3 (.inr rfl)
            refine ⟨_, _, _, _, lpBy_cons lpBy_nil List.nodup_nil T, er.trans ?_, hp⟩
            rw [← nxV_of (c' := accJ l ((bN l 0 % 8 : Nat) : Int) 3) (k' := 4) e (by rw [a3]; omega) rfl]

def nextSpec : Spec
  | [.fs s n l] => some (nxV (unbyts l), [s = 1, l = byts (unbyts l), n = (unbyts l).length, n ≤ 1000000000, 0 < n])
  | _ => none
theorem nextc_ok : SpecOK Tryd.prog 26 nextSpec := by
  refine spec_of mixed clN_ok fun args r q hs hq => ?_
  unfold nextSpec at hs
  split at hs
  · rename_i s n l
    simp only [Option.some.injEq, Prod.mk.injEq] at hs
    obtain ⟨rfl, rfl⟩ := hs
    obtain ⟨rfl, h1, h2, h3, h4, _⟩ := hq
    generalize unbyts l = m at h1 h2
    subst h1 h2
    exact next_at h4 h3
  · simp at hs

noncomputable def clR : CallT := aCall Tryd.prog (sgBy [(26, nextSpec), (19, signSpec)]) 500 8
theorem clR_ok : CallOK Tryd.prog clR := aCall_ok mixed (sgBy_cons nextc_ok (sgBy_cons rsign_ok sgBy_nil)) 500 8

/-! Signs. -/

def rsG (l : List UInt8) (off n m : Nat) (L : List AV) : St := ⟨frame 27 [(3, .sl 0 off n), (4, .sl 1 0 m)], [some ⟨5, false, byts l⟩, some ⟨3, false, L⟩]⟩
def rsE (l : List UInt8) (m : Nat) (L : List AV) : St := ⟨frame 27 [(4, .sl 1 0 m)], [some ⟨5, false, byts l⟩, some ⟨3, false, L⟩]⟩

theorem rs_1 (l : List UInt8) (off n : Nat) (W : List Int) (c k : Nat) : roundOut (⟨[], [3, 4], [0, 3]⟩) (aCode Tryd.prog clR ⟨true, bs [(12, true)] ++ ([(16, ⟨.c (.int .i64 (c : Nat)), none⟩), (17, ⟨.c (.int .i64 (k : Nat)), none⟩)])⟩ (lpBy ([])) 60 (lbody Tryd.prog 17 3) (rsG l off n W.length (ints W))) = some (.normal, rsG l (k + off) (n - k) (W.length + 1) (List.take W.length (ints W) ++ [.c (.int .i64 (c : Nat))]), [((decide ((↑n : Int) > (0 : Int)) : Bool)) = (true),
 ((Tryd.prog.cellsOf (5 : TypeId) : Nat)) = ((1 : Nat)),
 ((List.take n (List.drop off (byts l)) : List AV)) = (byts (unbyts (List.take n (List.drop off (byts l))))),
 ((n : Nat)) = ((unbyts (List.take n (List.drop off (byts l)))).length),
 ((n : Nat) ≤ ((1000000000 : Nat))),
 (((0 : Nat) : Nat) < (n)),
 ((flatV [] (nxV (unbyts (List.take n (List.drop off (byts l))))) : Bool)) = (true),
 (((↑(nx
        (unbyts
          (List.take (mulS n (Tryd.prog.cellsOf ({ e := (5 : TypeId), op := false, cells := byts l } : Blk).e))
            (List.drop (mulS off (Tryd.prog.cellsOf ({ e := (5 : TypeId), op := false, cells := byts l } : Blk).e))
              ({ e := (5 : TypeId), op := false, cells := byts l } : Blk).cells)))).fst :
  Int) : Int)) = ((↑c : Int)),
 (((↑(nx
          (unbyts
            (List.take (mulS n (Tryd.prog.cellsOf ({ e := (5 : TypeId), op := false, cells := byts l } : Blk).e))
              (List.drop (mulS off (Tryd.prog.cellsOf ({ e := (5 : TypeId), op := false, cells := byts l } : Blk).e))
                ({ e := (5 : TypeId), op := false, cells := byts l } : Blk).cells)))).snd.fst :
  Int) : Int)) = ((↑k : Int)),
 (((1 : Nat) : Nat) ≤ ((1 : Nat))),
 (((W.length + (1 : Nat)) * (8 : Nat) : Nat) ≤ ((140737488355328 : Nat))),
 ((W.length + (1 : Nat) : Nat) ≤ ((4611686018427387904 : Nat))),
 ((W.length : Nat) ≤ ((ints W).length)),
 (((0 : Int) : Int) ≤ ((↑k : Int))),
 (((↑k : Int) : Int) ≤ ((↑n : Int))),
 (((↑n : Int) : Int) ≤ ((↑n : Int)))]) := by kernel_rfl

theorem rs_2 (l : List UInt8) (off n : Nat) (W : List Int) (c k : Nat) : roundOut (⟨[], [4], [0, 1]⟩) (aCode Tryd.prog clR ⟨true, bs [(12, false)] ++ ([(16, ⟨.c (.int .i64 (c : Nat)), none⟩), (17, ⟨.c (.int .i64 (k : Nat)), none⟩)])⟩ (lpBy ([])) 60 (lbody Tryd.prog 17 3) (rsG l off n W.length (ints W))) = some (.exit 0, rsE l W.length (ints W), [((decide ((↑n : Int) > (0 : Int)) : Bool)) = (false)]) := by kernel_rfl

/-! Join. -/

def jnG (L : List Int) (i n : Nat) (X : List AV) : St := ⟨frame 20 [(0, .fs 1 L.length (ints L)), (3, .sl 0 0 n), (4, .c (.int .i64 i))], [some ⟨5, false, X⟩]⟩

theorem jn_1 (L : List Int) (i : Nat) (out : List UInt8) (c : Int) : roundOut (⟨[], [0, 3, 4], [1]⟩) (aCode Tryd.prog clR ⟨true, bs [(8, true)] ++ ([(15, ⟨.c (.int .i64 c), none⟩)])⟩ (lpBy ([])) 60 (lbody Tryd.prog 24 3) (jnG L i out.length (byts out))) = some (.normal, jnG L (i + 1) (out.length + (encN (sgn c)).length) (List.take out.length (byts out) ++ byts (encN (sgn c))), [((decide ((↑i : Int) < (↑L.length : Int)) : Bool)) = (true),
 (((0 : Int) : Int) ≤ ((↑i : Int))),
 (((↑i : Int) : Int) < ((↑L.length : Int))),
 (((0 : Nat) : Nat) < ((List.drop i (ints L)).length)),
 avEq ((List.drop i (ints L)).headD AV.any) ((AV.c ((Value.int .i64 c)))),
 (((-9223372036854775808 : Int) : Int) ≤ (c)),
 ((c : Int) ≤ ((9223372036854775807 : Int))),
 (((out.length + (encN (sgn c)).length) * (1 : Nat) : Nat) ≤ ((140737488355328 : Nat))),
 ((out.length + (encN (sgn c)).length : Nat) ≤ ((4611686018427387904 : Nat))),
 ((out.length : Nat) ≤ ((byts out).length)),
 ((IntKind.i64.min : Int) ≤ ((↑i : Int) + (1 : Int))),
 (((↑i : Int) + (1 : Int) : Int) ≤ (IntKind.i64.max))]) := by kernel_rfl

theorem jn_2 (L : List Int) (i : Nat) (out : List UInt8) (c : Int) : roundOut (⟨[], [0, 3, 4], [0]⟩) (aCode Tryd.prog clR ⟨true, bs [(8, false)] ++ ([(15, ⟨.c (.int .i64 c), none⟩)])⟩ (lpBy ([])) 60 (lbody Tryd.prog 24 3) (jnG L i out.length (byts out))) = some (.exit 0, jnG L i out.length (byts out), [((decide ((↑i : Int) < (↑L.length : Int)) : Bool)) = (false)]) := by kernel_rfl

theorem cells5 : Tryd.prog.cellsOf 5 = 1 := by kernel_rfl
theorem cells3 : Tryd.prog.cellsOf 3 = 1 := by kernel_rfl

def RsInv (l : List UInt8) (x : Nat × Nat × List Int) : Prop := x.1 ≤ l.length ∧ x.2.1 = l.length - x.1 ∧ x.2.2.length ≤ x.1 ∧ x.2.2 ++ natI (signsN (l.drop x.1)) = natI (signsN l)

theorem byts_piece (l : List UInt8) (off n : Nat) (h : n = l.length - off) : List.take n (List.drop off (byts l)) = byts (l.drop off) := by
  rw [byts_drop, List.take_of_length_le (by rw [byts_length, List.length_drop]; omega)]

theorem nx_rng {l : List UInt8} (h : l ≠ []) : (nx l).1 ≤ 1114111 := by
  have := (nx_pos h).2.2
  unfold okC at this
  omega

theorem rs_loop (l : List UInt8) (hl : l.length ≤ 1000000000) : Tri Ext0 Tryd.prog (.loop (lbody Tryd.prog 17 3)) (rsG l 0 l.length 0 []) (.exit 0) (rsE l (natI (signsN l)).length (ints (natI (signsN l)))) := by
  refine loop_inv mixed clR_ok (fun x : Nat × Nat × List Int => rsG l x.1 x.2.1 x.2.2.length (ints x.2.2)) (RsInv l) (fun x => x.2.1) ?_ (0, l.length, []) ⟨Nat.zero_le _, by simp, Nat.zero_le _, by simp⟩
  rintro ⟨off, n, W⟩ ⟨h1, h2, h3, h4⟩
  simp only at h1 h2 h3 h4 ⊢
  by_cases hn : 0 < n
  · have hne : l.drop off ≠ [] := by
      intro e
      have := congrArg List.length e
      simp only [List.length_drop, List.length_nil] at this
      omega
    have hp := nx_pos hne
    have hr := nx_rng hne
    rw [List.length_drop] at hp
    have hs := signsN_step hne
    rw [List.drop_drop] at hs
    have hx := byts_piece l off n h2
    refine .inl ⟨((nx (l.drop off)).2.1 + off, n - (nx (l.drop off)).2.1, W ++ [(((nx (l.drop off)).1 : Nat) : Int)]), ⟨by simp only; omega, by simp only; omega, by simp only [List.length_append, List.length_cons, List.length_nil]; omega, ?_⟩, by simp only; omega, ?_⟩
    · simp only
      rw [← h4, hs, List.append_assoc, Nat.add_comm]
      rfl
    · simp only
      rw [List.length_append, ← ints_put]
      refine ⟨_, _, _, _, _, lpBy_nil, by decide, rs_1 l off n W (nx (l.drop off)).1 (nx (l.drop off)).2.1, ?_⟩
      simp only [allP, cells5, mulS_one, hx, unbyts_byts, ints_length, List.length_drop, and_true, true_and, decide_eq_true_eq]
      repeat' apply And.intro
      all_goals first | omega | rfl
  · have e : off = l.length := by omega
    subst e
    rw [List.drop_length, signsN_nil] at h4
    have e2 : W = natI (signsN l) := by rw [← h4]; simp [natI]
    refine .inr ⟨by simp, ?_⟩
    rw [← e2]
    refine ⟨_, _, _, _, _, lpBy_nil, by decide, rs_2 l l.length n W 0 0, ?_⟩
    simp only [allP, and_true, decide_eq_false_iff_not]
    omega

def rsFi : Fi := ⟨[(4, 3)], [3, 4], [0, 1]⟩
noncomputable def rsLp (l : List UInt8) : List (Nat × Lp) := [(3, ⟨lbody Tryd.prog 17 3, rsFi, rsG l 0 l.length 0 [], .exit 0, rsE l (natI (signsN l)).length (ints (natI (signsN l)))⟩)]

theorem rsigns_1 (l : List UInt8) : outcome Tryd.prog 17 (aBody Tryd.prog clR ⟨true, bs [] ++ ([])⟩ (lpBy (rsLp l)) 60 17 ([.c (str l)]) ([])) = some ((AV.fs 1 ((natI (signsN l)).length) (ints (natI (signsN l)))), [((l.length : Nat) ≤ ((140737488355328 : Nat))),
 ((lbody Tryd.prog (17 : FuncId) (3 : Nat) : Go.Code)) = (lbody Tryd.prog (17 : FuncId) (3 : Nat)),
 ((rsG l (0 : Nat) l.length (0 : Nat) [] : Go.Proofs.YtfaffnemfndkfaaDoor.St)) = (rsG l (0 : Nat) l.length (0 : Nat) [])]) := by kernel_rfl

theorem rsigns_all (l : List UInt8) (h1 : l.length ≤ 1000000000) : ∃ (h : Hints) (p : List Prop), outcome Tryd.prog 17 (aBody Tryd.prog clR h (lpBy (rsLp l)) 60 17 ([.c (str l)]) ([])) = some (.fs 1 (natI (signsN l)).length (ints (natI (signsN l))), p) ∧ allP p := by
  have eR := rsigns_1 l
  refine ⟨_, _, eR.trans (congrArg (fun r => some (r, _)) ?_), ?_⟩
  · rfl
  · simp only [allP, and_true, true_and]
    repeat' apply And.intro
    all_goals first | omega | rfl

theorem rsigns_ok : SpecOK Tryd.prog 17 signsSpecU := by
  refine spec_of mixed clR_ok fun args r q hs hq => ?_
  unfold signsSpecU at hs
  split at hs
  · rename_i s
    simp only [Option.some.injEq, Prod.mk.injEq] at hs
    obtain ⟨rfl, rfl⟩ := hs
    obtain ⟨⟨⟨l⟩⟩, rfl⟩ : ∃ b : ByteArray, b = s := ⟨s, rfl⟩
    obtain ⟨h, p, e, hp⟩ := rsigns_all l hq.1
    exact ⟨_, _, _, _, lpBy_cons lpBy_nil (show rsFi.m.Nodup by decide) (rs_loop l hq.1), e, hp⟩
  · simp at hs

theorem jn_loop (L : List Int) (hl : L.length ≤ 1000000000) (hL : ∀ n ∈ L, -9223372036854775808 ≤ n ∧ n ≤ 9223372036854775807) : Tri Ext0 Tryd.prog (.loop (lbody Tryd.prog 24 3)) (jnG L 0 0 []) (.exit 0) (jnG L L.length (join (sgL L)).length (byts (join (sgL L)))) := by
  have key := loop_up mixed clR_ok (fun i => jnG L i (join (sgL (L.take i))).length (byts (join (sgL (L.take i))))) L.length (e := .exit 0) (R := jnG L L.length (join (sgL L)).length (byts (join (sgL L)))) (b := lbody Tryd.prog 24 3) (by simp) ?_ ?_ 0 (Nat.zero_le _)
  · exact key
  · intro i hi
    have h1 := join_len (sgL (L.take i))
    have h2 : (sgL (L.take i)).length = i := by simp [sgL]; omega
    have h4 := (U8.enc_len (sgn (L.getD i 0)))
    have h5 := ints_headD L i hi
    have hc := hL (L.getD i 0) (by simp [List.getD, hi])
    try simp only
    rw [join_next L i hi]
    generalize join (sgL (L.take i)) = out at *
    rw [List.length_append, ← byts_put]
    refine ⟨_, _, _, _, _, lpBy_nil, by decide, jn_1 L i out (L.getD i 0), ?_⟩
    simp only [allP, h5, avEq_refl, byts_length, ints_length, List.length_drop, and_true, true_and, decide_eq_true_eq, decide_eq_false_iff_not, i64_min, i64_max]
    repeat' apply And.intro
    all_goals first | omega | exact bytesOK_byts _ | rfl
  · try simp only [List.take_length]
    exact ⟨_, _, _, _, _, lpBy_nil, by decide, jn_2 L L.length (join (sgL L)) 0, by simp [allP]⟩

def jnFi : Fi := ⟨[(3, 5)], [0, 3, 4], [0]⟩
noncomputable def jnLp (L : List Int) : List (Nat × Lp) := [(3, ⟨lbody Tryd.prog 24 3, jnFi, jnG L 0 0 [], .exit 0, jnG L L.length (join (sgL L)).length (byts (join (sgL L)))⟩)]

theorem rjoin_1 (L : List Int) : outcome Tryd.prog 24 (aBody Tryd.prog clR ⟨true, bs [] ++ ([(19, ⟨.c (str (join (sgL L))), none⟩)])⟩ (lpBy (jnLp L)) 60 24 ([.fs 1 L.length (ints L)]) ([])) = some ((AV.c ((str (join (sgL L))))), [((lbody Tryd.prog (24 : FuncId) (3 : Nat) : Go.Code)) = (lbody Tryd.prog (24 : FuncId) (3 : Nat)),
 ((jnG L (0 : Nat) (0 : Nat) [] : Go.Proofs.YtfaffnemfndkfaaDoor.St)) = (jnG L (0 : Nat) (0 : Nat) []),
 (((join (sgL L)).length + (0 : Nat) : Nat) ≤ ((byts (join (sgL L))).length)),
 bytesOK (List.take (join (sgL L)).length (List.drop (0 : Nat) (byts (join (sgL L))))),
 ((unbyts (List.take (join (sgL L)).length (List.drop (0 : Nat) (byts (join (sgL L))))) : List UInt8)) = (join (sgL L))]) := by kernel_rfl

theorem rjoin_all (L : List Int)  : ∃ (h : Hints) (p : List Prop), outcome Tryd.prog 24 (aBody Tryd.prog clR h (lpBy (jnLp L)) 60 24 ([.fs 1 L.length (ints L)]) ([])) = some (.c (str (join (sgL L))), p) ∧ allP p := by
  have eR := rjoin_1 L
  refine ⟨_, _, eR.trans (congrArg (fun r => some (r, _)) ?_), ?_⟩
  · rfl
  · simp only [allP, byts_all, unbyts_byts, Nat.add_zero, byts_length, and_true, true_and]
    repeat' apply And.intro
    all_goals first | omega | exact bytesOK_byts _ | rfl

def RngI (L : List Int) : Prop := ∀ x ∈ L, -9223372036854775808 ≤ x ∧ x ≤ 9223372036854775807

def joinSpec : Spec
  | [.fs s n l] => some (.c (str (join (sgL (unints l)))), [s = 1, l = ints (unints l), n = (unints l).length, n ≤ 1000000000, RngI (unints l)])
  | _ => none
theorem rjoin_ok : SpecOK Tryd.prog 24 joinSpec := by
  refine spec_of mixed clR_ok fun args r q hs hq => ?_
  unfold joinSpec at hs
  split at hs
  · rename_i s n l
    simp only [Option.some.injEq, Prod.mk.injEq] at hs
    obtain ⟨rfl, rfl⟩ := hs
    obtain ⟨rfl, h1, h2, h3, h4, _⟩ := hq
    generalize unints l = L at h1 h2 h4
    subst h1 h2
    obtain ⟨h, p, e, hp⟩ := rjoin_all L
    exact ⟨_, _, _, _, lpBy_cons lpBy_nil (show jnFi.m.Nodup by decide) (jn_loop L h3 h4), e, hp⟩
  · simp at hs

theorem sgL_natI {cs : List Nat} (h : ∀ c ∈ cs, okC c) : sgL (natI cs) = cs := by
  induction cs with
  | nil => rfl
  | cons c r ih =>
    have := sgn_okC (h c (.head _))
    simp only [sgL, natI, List.map_cons] at ih ⊢
    rw [this, ih fun x hx => h x (.tail _ hx)]
theorem natI_rng {cs : List Nat} (h : ∀ c ∈ cs, okC c) : ∀ x ∈ natI cs, -9223372036854775808 ≤ x ∧ x ≤ 9223372036854775807 := by
  intro x hx
  obtain ⟨c, hc, rfl⟩ := List.mem_map.1 hx
  have := h c hc
  unfold okC at this
  omega

noncomputable def clQ : CallT := aCall Tryd.prog (sgBy [(17, signsSpecU), (24, joinSpec)]) 500 8
theorem clQ_ok : CallOK Tryd.prog clQ := aCall_ok mixed (sgBy_cons rsigns_ok (sgBy_cons rjoin_ok sgBy_nil)) 500 8

theorem rdecode_1 (l : List UInt8) : outcome Tryd.prog 13 (aBody Tryd.prog clQ ⟨true, bs [] ++ ([(4, ⟨.c (str l), none⟩), (6, ⟨.c (str (fixF l)), none⟩)])⟩ (lpBy ([])) 60 13 ([.fs 1 l.length (byts l)]) ([])) = some ((AV.c ((str (fixF l)))), [(((byts l).length : Nat)) = (l.length),
 bytesOK (byts l),
 ((unbyts (byts l) : List UInt8)) = (l),
 ((l.length : Nat) ≤ ((1000000000 : Nat))),
 ((Tryd.prog.cellsOf (3 : Nat) : Nat)) = ((1 : Nat)),
 ((List.take (natI (signsN l)).length (List.drop (0 : Nat) (ints (natI (signsN l)))) : List AV)) = (ints (unints (List.take (natI (signsN l)).length (List.drop (0 : Nat) (ints (natI (signsN l))))))),
 (((natI (signsN l)).length : Nat)) = ((unints (List.take (natI (signsN l)).length (List.drop (0 : Nat) (ints (natI (signsN l)))))).length),
 (((natI (signsN l)).length : Nat) ≤ ((1000000000 : Nat))),
 RngI
  (unints
    (List.take
      (mulS (natI (signsN (sb { data := { toList := l } }))).length
        (Tryd.prog.cellsOf
          ({ e := (3 : Nat), op := false, cells := ints (natI (signsN (sb { data := { toList := l } }))) } : Blk).e))
      (List.drop
        (mulS (0 : Nat)
          (Tryd.prog.cellsOf
            ({ e := (3 : Nat), op := false, cells := ints (natI (signsN (sb { data := { toList := l } }))) } : Blk).e))
        ({ e := (3 : Nat), op := false, cells := ints (natI (signsN (sb { data := { toList := l } }))) } : Blk).cells))),
 ((flatV []
  (AV.c (str (join (sgL (unints (List.take (natI (signsN l)).length (List.drop (0 : Nat) (ints (natI (signsN l)))))))))) : Bool)) = (true),
 ((join (sgL (unints (List.take (natI (signsN l)).length (List.drop (0 : Nat) (ints (natI (signsN l))))))) : List UInt8)) = (fixF l)]) := by kernel_rfl

theorem rdecode_all (l : List UInt8) (h1 : l.length ≤ 1000000000) : ∃ (h : Hints) (p : List Prop), outcome Tryd.prog 13 (aBody Tryd.prog clQ h (lpBy ([])) 60 13 ([.fs 1 l.length (byts l)]) ([])) = some (.c (str (fixF l)), p) ∧ allP p := by
  have eR := rdecode_1 l
  refine ⟨_, _, eR.trans (congrArg (fun r => some (r, _)) ?_), ?_⟩
  · rfl
  · clear eR
    have k3 : List.take (signsN l).length (List.drop 0 (ints (natI (signsN l)))) = ints (natI (signsN l)) := ints_all _ _ (natI_len _).symm
    have k4 : join (sgL (natI (signsN l))) = fixF l := by rw [sgL_natI (U8.signs_ok l)]; rfl
    have k5 : RngI (natI (signsN l)) := natI_rng (U8.signs_ok l)
    have k6 := signs_len l
    simp only [allP, cells3, mulS_one, natI_len, k3, k4, unints_ints, byts_length, unbyts_byts, and_true, true_and]
    repeat' apply And.intro
    all_goals first | assumption | omega | exact bytesOK_byts _ | (show RngI (unints (List.take (signsN l).length (List.drop 0 (ints (natI (signsN l)))))); rw [k3, unints_ints]; exact k5) | rfl

theorem rdecode_ok : SpecOK Tryd.prog 13 decSpecU := by
  refine spec_of mixed clQ_ok fun args r q hs hq => ?_
  unfold decSpecU at hs
  split at hs
  · rename_i s n l
    simp only [Option.some.injEq, Prod.mk.injEq] at hs
    obtain ⟨rfl, rfl⟩ := hs
    obtain ⟨rfl, h1, h2, h3, _⟩ := hq
    generalize unbyts l = m at h1 h2
    subst h1 h2
    obtain ⟨h, p, e, hp⟩ := rdecode_all m h3
    exact ⟨_, _, _, _, lpBy_nil, e, hp⟩
  · simp at hs

noncomputable def clP : CallT := aCall Tryd.prog (sgBy [(13, decSpecU)]) 500 8
theorem clP_ok : CallOK Tryd.prog clP := aCall_ok mixed (sgBy_cons rdecode_ok sgBy_nil) 500 8

theorem rright_1 (l : List UInt8) : outcome Tryd.prog 15 (aBody Tryd.prog clP ⟨true, bs [] ++ ([])⟩ (lpBy ([])) 60 15 ([.c (str l)]) ([])) = some ((AV.c ((Value.bool (fixF (unbyts (List.take l.length (List.drop (0 : Nat) (byts l)))) == l)))), [((l.length : Nat) ≤ ((140737488355328 : Nat))),
 ((Tryd.prog.cellsOf (5 : Nat) : Nat)) = ((1 : Nat)),
 ((List.take l.length (List.drop (0 : Nat) (byts l)) : List AV)) = (byts (unbyts (List.take l.length (List.drop (0 : Nat) (byts l))))),
 ((l.length : Nat)) = ((unbyts (List.take l.length (List.drop (0 : Nat) (byts l)))).length),
 ((l.length : Nat) ≤ ((1000000000 : Nat))),
 ((flatV [] (AV.c (str (fixF (unbyts (List.take l.length (List.drop (0 : Nat) (byts l))))))) : Bool)) = (true)]) := by kernel_rfl

theorem rright_all (l : List UInt8) (h1 : l.length ≤ 1000000000) : ∃ (h : Hints) (p : List Prop), outcome Tryd.prog 15 (aBody Tryd.prog clP h (lpBy ([])) 60 15 ([.c (str l)]) ([])) = some (.c (.bool (Lib.validD l)), p) ∧ allP p := by
  have eR := rright_1 l
  refine ⟨_, _, eR.trans (congrArg (fun r => some (r, _)) ?_), ?_⟩
  · rw [valid_eq, byts_all, unbyts_byts]
    refine congrArg (fun b => AV.c (Value.bool b)) ?_
    by_cases q : fixF l = l <;> simp [q]
  · simp only [allP, byts_all, unbyts_byts, byts_length, and_true, true_and]
    repeat' apply And.intro
    all_goals first | omega | rfl | exact cells5

theorem rright_ok : SpecOK Tryd.prog 15 rightSpec := by
  refine spec_of mixed clP_ok fun args r q hs hq => ?_
  unfold rightSpec at hs
  split at hs
  · rename_i s
    simp only [Option.some.injEq, Prod.mk.injEq] at hs
    obtain ⟨rfl, rfl⟩ := hs
    obtain ⟨⟨⟨l⟩⟩, rfl⟩ : ∃ b : ByteArray, b = s := ⟨s, rfl⟩
    obtain ⟨h, p, e, hp⟩ := rright_all l hq.1
    exact ⟨_, _, _, _, lpBy_nil, e, hp⟩
  · simp at hs

noncomputable def clX : CallT := aCall Tryd.prog (sgBy [(10, smallSpec), (11, decSpecU), (14, rightSpec), (12, signsSpecU), (16, intsSpec), (13, decSpecU), (15, rightSpec), (17, signsSpecU)]) 500 8
theorem clX_ok : CallOK Tryd.prog clX := aCall_ok mixed (sgBy_cons small_ok (sgBy_cons decU_ok (sgBy_cons right_ok (sgBy_cons signsU_ok (sgBy_cons ints_ok (sgBy_cons rdecode_ok (sgBy_cons rright_ok (sgBy_cons rsigns_ok sgBy_nil)))))))) 500 8

theorem decodes_1 (l : List UInt8) : lawOut (aBody Tryd.prog clX ⟨true, bs [(11, true)] ++ ([(14, ⟨.c (str l), none⟩), (17, ⟨.sl 1 0 l.length, some (byts l)⟩), (19, ⟨.c (str (fixF l)), none⟩), (44, ⟨.c (str l), none⟩)] ++ bs [(27, true), (34, true), (40, true), (46, true)])⟩ (lpBy ([])) 60 3 ([.fs 1 l.length (byts l)]) ([])) = some ((AV.c ((Value.bool true))), [((decide ((↑l.length : Int) > (1000 : Int)) : Bool)) = (true)]) := by kernel_rfl

theorem decodes_2 (l : List UInt8) : lawOut (aBody Tryd.prog clX ⟨true, bs [(11, false)] ++ ([(14, ⟨.c (str l), none⟩), (17, ⟨.sl 1 0 l.length, some (byts l)⟩), (19, ⟨.c (str (fixF l)), none⟩), (44, ⟨.c (str l), none⟩)] ++ bs [(27, true), (34, true), (40, true), (46, true)])⟩ (lpBy ([])) 60 3 ([.fs 1 l.length (byts l)]) ([])) = some ((AV.c ((Value.bool true))), [((decide ((↑l.length : Int) > (1000 : Int)) : Bool)) = (false),
 (((byts l).length : Nat)) = (l.length),
 bytesOK (byts l),
 ((unbyts (byts l) : List UInt8)) = (l),
 (((byts l).length : Nat)) = (l.length),
 ((((0 : Nat) + l.length) * (1 : Nat) : Nat) ≤ ((140737488355328 : Nat))),
 (((0 : Nat) + l.length : Nat) ≤ ((4611686018427387904 : Nat))),
 (((0 : Nat) : Nat) ≤ ((0 : Nat))),
 avEq ((AV.sl 1 0 ((0 : Nat) + l.length))) ((AV.sl 1 0 l.length)),
 ((List.take (0 : Nat) [] ++ byts l : List AV)) = (byts l),
 ((Tryd.prog.cellsOf (5 : Nat) : Nat)) = ((1 : Nat)),
 ((List.take l.length (List.drop (0 : Nat) (byts l)) : List AV)) = (byts (unbyts (List.take l.length (List.drop (0 : Nat) (byts l))))),
 ((l.length : Nat)) = ((unbyts (List.take l.length (List.drop (0 : Nat) (byts l)))).length),
 ((l.length : Nat) ≤ ((1000000000 : Nat))),
 ((flatV [] (AV.c (str (fixF (unbyts (List.take l.length (List.drop (0 : Nat) (byts l))))))) : Bool)) = (true),
 ((fixF (unbyts (List.take l.length (List.drop (0 : Nat) (byts l)))) : List UInt8)) = (fixF l),
 ((l.length : Nat) ≤ ((1000000000 : Nat))),
 (((1 : Nat) : Nat)) = ((1 : Nat)),
 ((byts l : List AV)) = (byts (unbyts (byts l))),
 ((l.length : Nat)) = ((unbyts (byts l)).length),
 ((l.length : Nat) ≤ ((1000000000 : Nat))),
 ((fixF l == fixF (unbyts (byts l)) : Bool)) = (true),
 ((l.length : Nat) ≤ ((1000000000 : Nat))),
 ((l.length : Nat) ≤ ((1000000000 : Nat))),
 ((Lib.validD l == Lib.validD l : Bool)) = (true),
 ((l.length : Nat) ≤ ((1000000000 : Nat))),
 ((Tryd.prog.cellsOf (3 : Nat) : Nat)) = ((1 : Nat)),
 ((Tryd.prog.cellsOf (3 : Nat) : Nat)) = ((1 : Nat)),
 (((natI (signsN l)).length : Nat)) = ((natI (signsN l)).length),
 ((List.take (natI (signsN l)).length (List.drop (0 : Nat) (ints (natI (signsN l)))) : List AV)) = (List.take (natI (signsN l)).length (List.drop (0 : Nat) (ints (natI (signsN l))))),
 ((List.take (natI (signsN l)).length (List.drop (0 : Nat) (ints (natI (signsN l)))) : List AV)) = (ints (unints (List.take (natI (signsN l)).length (List.drop (0 : Nat) (ints (natI (signsN l))))))),
 (((natI (signsN l)).length : Nat)) = ((unints (List.take (natI (signsN l)).length (List.drop (0 : Nat) (ints (natI (signsN l)))))).length),
 (((natI (signsN l)).length : Nat) ≤ ((1000000000 : Nat))),
 ((flatV [] (AV.c (Value.bool true)) : Bool)) = (true),
 ((true : Bool)) = (true),
 ((l.length + (0 : Nat) : Nat) ≤ ((byts l).length)),
 bytesOK (List.take l.length (List.drop (0 : Nat) (byts l))),
 ((unbyts (List.take l.length (List.drop (0 : Nat) (byts l))) : List UInt8)) = (l),
 ((l == l : Bool)) = (true)]) := by kernel_rfl

theorem decodes_all (l : List UInt8)  : ∃ (h : Hints) (p : List Prop), lawOut (aBody Tryd.prog clX h (lpBy ([])) 60 3 ([.fs 1 l.length (byts l)]) ([])) = some (.c (.bool true), p) ∧ allP p := by
  cases hc11 : (decide ((↑l.length : Int) > (1000 : Int)) : Bool) with
  | true =>
    have eR := decodes_1 l
    refine ⟨_, _, eR.trans (congrArg (fun r => some (r, _)) ?_), ?_⟩
    · rfl
    · clear eR
      simp only [allP, byts_all, byts_tk, byts_length, unbyts_byts, natI_len, and_true, true_and, i64_min, i64_max]
      try simp only [decide_eq_true_eq, decide_eq_false_iff_not] at *
      have k3 : List.take (signsN l).length (List.drop 0 (ints (natI (signsN l)))) = ints (natI (signsN l)) := ints_all _ _ (natI_len _).symm
      have k6 := signs_len l
      repeat' apply And.intro
      all_goals first
        | assumption
        | omega
        | exact bytesOK_byts _
        | exact sl_eq (by omega)
        | exact beq_self_eq_true _
        | exact cells5
        | exact cells3
        | (rw [List.take_zero, List.nil_append]; done)
        | (rw [k3, unints_ints]; done)
        | (rw [k3, unints_ints, natI_len]; done)
        | rfl
  | false =>
    have eR := decodes_2 l
    refine ⟨_, _, eR.trans (congrArg (fun r => some (r, _)) ?_), ?_⟩
    · rfl
    · clear eR
      simp only [allP, byts_all, byts_tk, byts_length, unbyts_byts, natI_len, and_true, true_and, i64_min, i64_max]
      try simp only [decide_eq_true_eq, decide_eq_false_iff_not] at *
      have k3 : List.take (signsN l).length (List.drop 0 (ints (natI (signsN l)))) = ints (natI (signsN l)) := ints_all _ _ (natI_len _).symm
      have k6 := signs_len l
      repeat' apply And.intro
      all_goals first
        | assumption
        | omega
        | exact bytesOK_byts _
        | exact sl_eq (by omega)
        | exact beq_self_eq_true _
        | exact cells5
        | exact cells3
        | (rw [List.take_zero, List.nil_append]; done)
        | (rw [k3, unints_ints]; done)
        | (rw [k3, unints_ints, natI_len]; done)
        | rfl

theorem decodes_any (l : List UInt8) : LawOK clX 3 [.fs 1 l.length (byts l)] := by
  obtain ⟨hs, p, e, hp⟩ := decodes_all l
  exact ⟨_, _, _, _, lpBy_nil, e, hp⟩

end Go.Proofs.YtfaffnemfndkfaaDoor
