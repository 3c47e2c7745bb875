/- slices.Insert of one number: its contract. -/
import Derived.Test.YtljgmgbjfjhjmaaInsD
namespace Go.Proofs.Ytljgmgbjfjhjmaa
open Go.RowKit
set_option linter.unusedVariables false
set_option linter.unusedSimpArgs false

def insPut (C : List AV) (i : Nat) (x : AV) : List AV := C.take i ++ x :: C.drop i
def insISpec : HSpec
  | [.sl 0 0 n, .c (.int .i64 i), .sl 1 0 1], [some ⟨t, false, C⟩, some ⟨t2, false, [x]⟩] => if t = 3 ∧ t2 = 3 then
      some (.sl 2 0 (n + 1), [none, none, iB (insPut C i.toNat x)], [0 ≤ i, i ≤ n, n ≤ 255, C.length = n]) else none
  | _, _ => none

theorem fillB {C : List AV} {x : AV} {n i : Nat} (hi : i < n) (hC : C.length = n) : ∃ D1, D1.length = n + 1 ∧
    List.take (i + 0) (C.take i ++ List.replicate (n + 1 - i) .any) ++ List.take (min (n + 1 - i) 1) [x] ++ List.drop (i + 0 + min (n + 1 - i) 1) (C.take i ++ List.replicate (n + 1 - i) .any) = D1 ∧
    List.take (i + 1 + 0) D1 ++ List.take (min (n + 1 - (i + 1)) (n - i)) (List.take (n - i) (List.drop (i + 0) C)) ++ List.drop (i + 1 + 0 + min (n + 1 - (i + 1)) (n - i)) D1 = insPut C i x := by
  have m1 : min (n + 1 - i) 1 = 1 := by omega
  have m2 : min (n + 1 - (i + 1)) (n - i) = n - i := by omega
  have lt : (C.take i).length = i := by rw [List.length_take]; omega
  have ld : (C.drop i).length = n - i := by rw [List.length_drop]; omega
  have lz : (List.replicate (n + 1 - i) AV.any).length = n - i + 1 := by rw [List.length_replicate]; omega
  have e0 : (C.drop i).take (n - i) = C.drop i := List.take_of_length_le (by omega)
  simp only [Nat.add_zero, m1, m2, e0, List.take_succ_cons, List.take_zero]
  rw [show insPut C i x = C.take i ++ x :: C.drop i from rfl]
  generalize C.take i = A at *
  generalize C.drop i = B at *
  generalize List.replicate (n + 1 - i) AV.any = Z at *
  have e1 : (A ++ Z).take i = A := by rw [← lt, List.take_left]
  have e2 : (A ++ Z).drop (i + 1) = Z.drop 1 := by rw [← lt, List.drop_append]; simp
  have lz2 : (Z.drop 1).length = n - i := by rw [List.length_drop]; omega
  rw [e1, e2]
  refine ⟨_, ?_, rfl, ?_⟩
  · simp only [List.length_append, lt, List.length_singleton, lz2]; omega
  · have l1 : (A ++ [x]).length = i + 1 := by rw [List.length_append, lt]; rfl
    have e3 : (A ++ [x] ++ Z.drop 1).take (i + 1) = A ++ [x] := by rw [← l1, List.take_left]
    have e4 : (A ++ [x] ++ Z.drop 1).drop (i + 1 + (n - i)) = [] := List.drop_of_length_le (by rw [List.length_append, l1, lz2]; exact Nat.le_refl _)
    rw [e3, e4]
    simp

theorem fillC {C : List AV} {x : AV} {n i : Nat} (hi : i < n) (hC : C.length = n) : ∃ D1, D1.length = n + 1 ∧
    List.take (i + 1 + 0) (C ++ [AV.any]) ++ List.take (min (n + 1 - (i + 1)) (n + 1 - i)) (List.take (n + 1 - i) (List.drop (i + 0) (C ++ [AV.any]))) ++ List.drop (i + 1 + 0 + min (n + 1 - (i + 1)) (n + 1 - i)) (C ++ [AV.any]) = D1 ∧
    List.take (i + 0) D1 ++ List.take (min (n + 1 - i) 1) [x] ++ List.drop (i + 0 + min (n + 1 - i) 1) D1 = insPut C i x := by
  have m1 : min (n + 1 - i) 1 = 1 := by omega
  have m2 : min (n + 1 - (i + 1)) (n + 1 - i) = n - i := by omega
  have lt : (C.take (i + 1)).length = i + 1 := by rw [List.length_take]; omega
  have ld : (C.drop i).length = n - i := by rw [List.length_drop]; omega
  have e1 : (C ++ [AV.any]).take (i + 1) = C.take (i + 1) := List.take_append_of_le_length (by omega)
  have e2 : (C ++ [AV.any]).drop i = C.drop i ++ [.any] := List.drop_append_of_le_length (by omega)
  have e3 : ((C.drop i ++ [AV.any]).take (n + 1 - i)).take (n - i) = C.drop i := by
    rw [List.take_take, Nat.min_eq_left (by omega), List.take_append_of_le_length (by omega), List.take_of_length_le (by omega)]
  have e4 : (C ++ [AV.any]).drop (i + 1 + (n - i)) = [] := List.drop_of_length_le (by rw [List.length_append, List.length_singleton]; omega)
  simp only [Nat.add_zero, m1, m2, e1, e2, e3, e4, List.append_nil, List.take_succ_cons, List.take_zero]
  refine ⟨_, ?_, rfl, ?_⟩
  · rw [List.length_append, lt, ld]; omega
  · have e5 : (C.take (i + 1) ++ C.drop i).take i = C.take i := by
      rw [List.take_append_of_le_length (by omega), List.take_take, Nat.min_eq_left (by omega)]
    have e6 : (C.take (i + 1) ++ C.drop i).drop (i + 1) = C.drop i := by
      have := List.drop_left (l₁ := C.take (i + 1)) (l₂ := C.drop i)
      rw [lt] at this
      exact this
    rw [e5, e6]
    simp [insPut]

/-- What is told of the call. -/
abbrev insR (w : World) (ι : Pl) (C : List AV) (i n : Nat) (x : AV) : Ending → World → Prop := fun e w' => ∃ v ι', e = .returned v ∧ Ext w ι w' ι' ∧ HpRel Try.prog w' ι' [none, none, iB (insPut C i x)] ∧ VR Try.prog w' ι' true (.sl 2 0 (n + 1)) v

theorem ins_mid (C : List AV) (x : AV) (n i : Nat) (hn : n ≤ 255) (hi : i < n) (hC : C.length = n) {w : World} {ι : Pl} {vs : Array Value} (hh : HpRel Try.prog w ι (iH C x)) (hl : 3 = vs.size)
    (hv : ∀ j, j < 3 → VR Try.prog w ι true ([AV.sl 0 0 n, .c (.int .i64 i), .sl 1 0 1].getD j .any) (vs.getD j undef)) : Calls Try.prog 31 vs w (insR w ι C i n x) := by
  refine body_calls (c := insC) (args := [AV.sl 0 0 n, .c (.int .i64 i), .sl 1 0 1]) Try.func31 (by kernel_rfl) hh hl hv fun a0 hS0 => ?_
  have hS0 : StRel Try.prog w ι (iF n i [] (iH C x)) a0 := hS0
  have hb : (iH C x)[0]? = some (some ⟨3, false, C⟩) := rfl
  refine wp_piece (by kernel_rfl) ((ip0_all C x n i hi hn hC).tri mixed cl0_ok) hS0 fun a1 w1 ι1 h1 x1 => ?_
  refine wp_piece (by kernel_rfl) ((ip1_all C x n i hi hn hC).tri mixed cl0_ok) h1 fun a2 w2 ι2 h2 x2 => ?_
  refine wp_piece (by kernel_rfl) ((ip2_all C x n i hi hn hC).tri mixed cl0_ok) h2 fun a3 w3 ι3 h3 x3 => ?_
  refine wp_piece (by kernel_rfl) ((ip3_all C x n i hi hn hC).tri mixed cl0_ok) h3 fun a4 w4 ι4 h4 x4 => ?_
  refine wp_piece (by kernel_rfl) ((ip4_all C x n i hi hn hC).tri mixed cl0_ok) h4 fun a5 w5 ι5 h5 x5 => ?_
  refine wp_piece (by kernel_rfl) ((ip5_all C x n i hi hn hC).tri mixed cl0_ok) h5 fun a6 w6 ι6 h6 x6 => ?_
  have E := ((((x1.trans x2).trans x3).trans x4).trans x5).trans x6
  clear h1 h2 h3 h4 h5 x1 x2 x3 x4 x5 x6
  have h6 : StRel Try.prog w6 ι6 (iT8 n i [] (iH C x)) a6 := h6
  obtain ⟨N, hr, hNm⟩ : ∃ N, Room w6 ι6 N ∧ N ≤ maxLen := by
    obtain ⟨g, cap, cur, fz, hg, hcur, hn2, hs, hm, _⟩ := (h6.fr.rel 0 : VR Try.prog w6 ι6 true (.sl 0 0 n) _).slPlace (h6.hp.live hb) (by omega)
    simp only [cells3] at hs
    exact ⟨cur.size, ⟨g, cur, _, fz, hg, hcur, rfl⟩, by omega⟩
  show insC6.wp Try.prog _ a6 w6
  refine wp_parts (by kernel_rfl) ?_
  refine wp_parts (by kernel_rfl) ?_
  refine r8_all C x n i N (decide (((n + 1 : Nat) : Int) > ((N : Nat) : Int))) hn hi hNm rfl h6 hr fun a7 w7 ι7 h7 x7 => ?_
  have E7 := E.trans (x7.toK 2)
  have hr7 := hr.ext (x7.toK 2) h7.hp hb
  have hS7 : StRel Try.prog w7 ι7 (iT8 n i [] (iH C x)) a7 := h7.keep [0, 1, 2, 7, 8]
  have hc := h7.ev (.tmp 31)
  show (Code.rgt (Code.lft insC6)).wp Try.prog _ a7 w7
  rw [show Code.rgt (Code.lft insC6) = .cond (.tmp 31) insB9 .skip from by kernel_rfl]
  by_cases hcap : N < n + 1
  · have hg : decide (((n + 1 : Nat) : Int) > ((N : Nat) : Int)) = true := by rw [decide_eq_true_eq]; omega
    rw [hg] at hc
    refine wp_cond_true hc.cInv ?_
    refine wp_parts (by kernel_rfl) ?_
    refine r9_all C x n i N hn hi hcap hC hS7 hr7 fun a8 w8 ι8 h8 x8 => ?_
    have hZ : (C.take i ++ List.replicate (n + 1 - i) AV.any).length = n + 1 := by rw [List.length_append, List.length_take, List.length_replicate]; omega
    obtain ⟨D1, d0, d1, d2⟩ := fillB (x := x) hi hC
    refine ((ipB_all C _ D1 _ x n i hi hn hC hZ d0 d1 d2).tri mixed cl0_ok) w8 ι8 a8 _ h8 fun a9 w9 ι9 h9 x9 => ?_
    have E9 := (E7.trans (x8.toK 2)).trans x9
    refine post_ret h9 (r := .sl 2 0 (n + 1)) (by kernel_rfl) fun v hvr => ?_
    obtain ⟨ι10, e10, h10⟩ := killAll_ok [0, 1] h9.hp
    exact ⟨v, ι10, rfl, (ext_of_extK hh E9).trans e10, h10, hvr.mono e10⟩
  · have hg : decide (((n + 1 : Nat) : Int) > ((N : Nat) : Int)) = false := by rw [decide_eq_false_iff_not]; omega
    rw [hg] at hc
    refine wp_cond_false hc.cInv ?_
    refine wp_skip ?_
    show insR13.wp Try.prog _ a7 w7
    refine wp_parts (by kernel_rfl) ?_
    refine r13_all C x n i N hn hi (by omega) hC hS7 hr7 fun a8 w8 ι8 h8 x8 => ?_
    show (Code.rgt insR13).wp Try.prog _ a8 w8
    refine wp_parts (by kernel_rfl) ?_
    show insX14.wp Try.prog _ a8 w8
    refine wp_parts (by kernel_rfl) ?_
    have hZ : (C ++ [AV.any]).length = n + 1 := by rw [List.length_append, List.length_singleton, hC]
    refine r14_all (C ++ [.any]) x n i hn hi hZ h8 fun a9 w9 ι9 h9 x9 => ?_
    have hc9 := h9.ev (.tmp 68)
    show (Code.rgt insX14).wp Try.prog _ a9 w9
    rw [show Code.rgt insX14 = .cond (.tmp 68) insC15 .skip from by kernel_rfl]
    refine wp_cond_true hc9.cInv ?_
    have hS9 : StRel Try.prog w9 ι9 (iG n i [(7, .c (.int .i64 1)), (8, .c (.int .i64 n))] (iH (C ++ [.any]) x)) a9 := h9.keep [0, 1, 2, 7, 8]
    obtain ⟨D1, d0, d1, d2⟩ := fillC (x := x) hi hC
    refine ((ipC_all (C ++ [AV.any]) D1 _ x n i hi hn hZ d0 d1 d2).tri mixed cl0_ok) w9 ι9 a9 _ hS9 fun a10 w10 ι10 h10 x10 => ?_
    have E10 := ((E7.trans (x8.toK 2)).trans (x9.toK 2)).trans x10
    have E11 := ext_of_extK hh E10
    refine post_ret h10 (r := .sl 0 0 (n + 1)) (by kernel_rfl) fun v hvr => ?_
    have hb10 : [iB (insPut C i x), iB [x]][0]? = some (some ⟨3, false, insPut C i x⟩) := rfl
    obtain ⟨g, cap, cur, fz, hg, hcur, hn2, hs, hm, rfl⟩ := hvr.slPlace (h10.hp.live hb10) (by omega)
    obtain ⟨cur', fz', hcur', q0, q1, q2, q3, q4⟩ := (h10.hp.live hb10).cells hg hcur
    rw [hcur] at hcur'; cases hcur'
    have hput : Put w10 w10 g cur 3 fz := ⟨rfl, rfl, rfl, rfl, hcur, fun k hk => rfl⟩
    obtain ⟨e12, h12⟩ := h10.hp.moveIn (b := 0) (B := ⟨3, false, insPut C i x⟩) hg (by show 0 < 2; decide) hput q0 q1 q2 q3
    obtain ⟨ι13, e13, h13⟩ := killAll_ok [1] h12
    refine ⟨_, ι13, rfl, (E11.trans e12).trans e13, h13, VR.mono e13 ?_⟩
    exact .slAt (by show upd (upd ι10 0 .dead) 2 (.here g) 2 = .here g; simp) hcur hn2 hs hm

open Classical in
theorem insI_ok : HSpecOK Try.prog 31 insISpec := by
  intro args hp r hp' q hs hq w ι vs hh hl hv
  unfold insISpec at hs
  split at hs
  · rename_i n i t C t2 x
    split at hs
    · rename_i hc
      obtain ⟨rfl, rfl⟩ := hc
      simp only [Option.some.injEq, Prod.mk.injEq] at hs
      obtain ⟨rfl, rfl, rfl⟩ := hs
      obtain ⟨h1, h2, h3, h4, _⟩ := hq
      obtain ⟨i, rfl⟩ : ∃ k : Nat, i = (k : Int) := ⟨i.toNat, by omega⟩
      rw [Int.toNat_natCast]
      by_cases hi : i < n
      · exact ⟨⟨_, _, Try.func31, rfl, by decide⟩, ins_mid C x n i h3 hi h4 hh hl hv⟩
      · have hin : i = n := by omega
        subst hin
        obtain ⟨hh1, p, e, hp⟩ := ipE_all C x i i rfl h3 h4
        have hput : insPut C i x = C.take i ++ [x] := by unfold insPut; rw [List.drop_of_length_le (by omega)]
        rw [hput]
        have ok : HSpecOK Try.prog 31 (fun a h => if a = [.sl 0 0 i, .c (.int .i64 i), .sl 1 0 1] ∧ h = iH C x then some (.sl 2 0 (i + 1), [none, none, some ⟨3, false, C.take i ++ [x]⟩], []) else none) := by
          refine hspec_kill mixed cl0_ok fun args hp r hp' q hs _ => ?_
          split at hs
          · rename_i hc
            obtain ⟨rfl, rfl⟩ := hc
            simp only [Option.some.injEq, Prod.mk.injEq] at hs
            obtain ⟨rfl, rfl, rfl⟩ := hs
            exact ⟨_, _, _, _, e, hp⟩
          · simp at hs
        exact ok _ _ _ _ [] (if_pos ⟨rfl, rfl⟩) trivial w ι vs hh hl hv
    · simp at hs
  · simp at hs

end Go.Proofs.Ytljgmgbjfjhjmaa
