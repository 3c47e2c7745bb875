/- The library's stable sort at rows of numbers, by a function that tells keys apart: exchanges, turns. -/
import Derived.Test.YtljgmgbjfjhjmaaSrt
import Derived.Test.YtljgmgbjfjhjmaaPnyG
import Derived.Test.YtljgmgbjfjhjmaaInts
import Derived.Test.YtljgmgbjfjhjmaaLevP
namespace Go.Proofs.Ytljgmgbjfjhjmaa
open Go.RowKit Srt
set_option linter.unusedVariables false
set_option linter.unusedSimpArgs false

/-! The function that tells keys apart. -/
/-- Keys are small. -/
def SmI (L : List Int) : Prop := ∀ z ∈ L, 0 ≤ z ∧ z ≤ 1114111
theorem smI_at {L : List Int} (h : SmI L) {i : Nat} (hi : i < L.length) : 0 ≤ L.getD i 0 ∧ L.getD i 0 ≤ 1114111 := by
  have e : L.getD i 0 = L[i] := by simp [List.getD, hi]
  rw [e]
  exact h _ (List.getElem_mem hi)
def cmpSpec : Spec
  | [.c (.int .i64 x), .c (.int .i64 y), .fp [.fs s n l]] => some (.c (.int .i64 ((unI l).getD x.toNat 0 - (unI l).getD y.toNat 0)), [s = 1, l = rowN (unI l), n = (unI l).length, SmI (unI l), 0 ≤ x, x < n, 0 ≤ y, y < n])
  | _ => none

theorem cmo_all (L : List Int) (x y : Nat) (u v : Int) (hx : x < L.length) (hy : y < L.length) (ha : avEq (((rowN L).drop x).headD .any) (.c (.int .i64 u))) (hb : avEq (((rowN L).drop y).headD .any) (.c (.int .i64 v))) (hp : 0 ≤ u) (hp2 : u ≤ 1114111) (hq : 0 ≤ v) (hq2 : v ≤ 1114111) (hl : (rowN L).length = L.length) : ∃ (h : Hints) (p : List Prop), outcome Try.prog 37 (aBody Try.prog cl0 h (lpBy ([])) 60 37 ([.c (.int .i64 x), .c (.int .i64 y), .fp [.fs 1 L.length (rowN L)]]) ([])) = some (.c (.int .i64 (u - v)), p) ∧ allP p := by
  refine ⟨⟨true, ([(9, ⟨.c (.int .i64 u), none⟩), (13, ⟨.c (.int .i64 v), none⟩)])⟩, [(((0 : Nat) : Nat) < ((1 : Nat))),
 (0 : Int) ≤ ↑x,
 (↑x : Int) < ↑L.length,
 (((0 : Nat) : Nat) < ((List.drop x (rowN L)).length)),
 avEq ((List.drop x (rowN L)).headD AV.any) ((AV.c ((Value.int .i64 u)))),
 (((0 : Nat) : Nat) < ((1 : Nat))),
 (0 : Int) ≤ ↑y,
 (↑y : Int) < ↑L.length,
 (((0 : Nat) : Nat) < ((List.drop y (rowN L)).length)),
 avEq ((List.drop y (rowN L)).headD AV.any) ((AV.c ((Value.int .i64 v)))),
 (IntKind.i64.min : Int) ≤ u - v,
 (u - v : Int) ≤ IntKind.i64.max], by kernel_rfl, ?_⟩
  all_goals try simp (disch := omega) only [std, List.length_drop, hl]
  all_goals repeat' apply And.intro
  all_goals first | exact True.intro | omega | with_reducible rfl | with_reducible assumption | exact ha | exact hb | exact hl | rfl

theorem cmp_ok : SpecOK Try.prog 37 cmpSpec := by
  refine spec_of mixed cl0_ok fun args r q hs hq => ?_
  unfold cmpSpec at hs
  split at hs
  · rename_i x y s n l
    simp only [Option.some.injEq, Prod.mk.injEq] at hs
    obtain ⟨rfl, rfl⟩ := hs
    obtain ⟨rfl, h2, h3, h4, h5, h6, h7, h8, _⟩ := hq
    generalize unI l = L at *
    subst h2 h3
    obtain ⟨x, rfl⟩ : ∃ k : Nat, x = (k : Int) := ⟨x.toNat, by omega⟩
    obtain ⟨y, rfl⟩ : ∃ k : Nat, y = (k : Int) := ⟨y.toNat, by omega⟩
    rw [Int.toNat_natCast, Int.toNat_natCast]
    have k1 := smI_at h4 (i := x) (by omega)
    have k2 := smI_at h4 (i := y) (by omega)
    obtain ⟨hh, p, e, hp⟩ := cmo_all L x y _ _ (by omega) (by omega) (by rw [rowN_at L x (by omega)]; exact avEq_refl _) (by rw [rowN_at L y (by omega)]; exact avEq_refl _) k1.1 k1.2 k2.1 k2.2 (rowN_length L)
    exact ⟨_, _, _, _, lpBy_nil, e, hp⟩
  · simp at hs

noncomputable def clCm : CallT := aCall Try.prog (sgBy [(37, cmpSpec)]) 500 8
theorem clCm_ok : CallOK Try.prog clCm := aCall_ok mixed (sgBy_cons cmp_ok sgBy_nil) 500 8

theorem nats_set (D : List Nat) (i x : Nat) (h : i < D.length) : (nats D).take i ++ [.c (.int .i64 x)] ++ (nats D).drop (i + 1) = nats (D.set i x) := by
  unfold nats
  rw [List.map_set, List.set_eq_take_append_cons_drop, if_pos (by simpa using h)]
  simp

/-- What a sort sees: the row, and the keys behind the function. -/
def srH (D : List Nat) (n : Nat) (C : List AV) : Heap := [some ⟨3, false, nats D⟩, some ⟨22, true, [.fs 1 n C]⟩]
def srF : AV := .fn 37 [.pt 1 0]

theorem kp2 {ns : List (Nat × TypeId)} {K : List Nat} : Fi.keeps ⟨ns, K, [0, 1]⟩ 2 := ⟨by simp, rfl⟩

/-! Exchanges. -/
def swS (D : List Nat) (n k a b c i : Nat) (C : List AV) : St := ⟨frame 38 [(0, .sl 0 0 n), (1, .c (.int .i64 a)), (2, .c (.int .i64 b)), (3, .c (.int .i64 c)), (10, .c (.int .i64 i))], srH D k C⟩

theorem swA_all (D D1 D2 : List Nat) (n k a b c i x y : Nat) (C : List AV) (hi : i < c) (ha : a + i < n) (hb : b + i < n) (hx : avEq (((nats D).drop (a + i)).headD .any) (.c (.int .i64 x))) (hy : avEq (((nats D).drop (b + i)).headD .any) (.c (.int .i64 y))) (hs1 : (nats D).take (a + i) ++ [.c (.int .i64 y)] ++ (nats D).drop (a + i + 1) = nats D1) (hs2 : (nats D1).take (b + i) ++ [.c (.int .i64 x)] ++ (nats D1).drop (b + i + 1) = nats D2) (hn : n ≤ 255) (hc : c ≤ 255) (hD : (nats D).length = n) (hD1 : (nats D1).length = n) : RoundK 2 Try.prog cl0 (lbody Try.prog 57 1) (swS D n k a b c i C) (.normal) (swS D2 n k a b c (i + 1) C) := by
  refine ⟨⟨true, (bs [(13, true)] ++ [(19, ⟨.c (.int .i64 (a + i : Nat)), none⟩), (23, ⟨.c (.int .i64 (b + i : Nat)), none⟩), (27, ⟨.c (.int .i64 (b + i : Nat)), none⟩), (29, ⟨.c (.int .i64 y), none⟩), (33, ⟨.c (.int .i64 (a + i : Nat)), none⟩), (35, ⟨.c (.int .i64 x), none⟩), (100036, ⟨.any, some (nats D1)⟩), (100037, ⟨.any, some (nats D2)⟩)])⟩, _, 60, ⟨[], [0, 1, 2, 3, 10], [0, 1]⟩, [decide ((↑i : Int) < ↑c) = true,
 (IntKind.i64.min : Int) ≤ ↑a + ↑i,
 (↑a + ↑i : Int) ≤ IntKind.i64.max,
 (↑a + ↑i : Int) = ↑(a + i),
 (IntKind.i64.min : Int) ≤ ↑b + ↑i,
 (↑b + ↑i : Int) ≤ IntKind.i64.max,
 (↑b + ↑i : Int) = ↑(b + i),
 (IntKind.i64.min : Int) ≤ ↑b + ↑i,
 (↑b + ↑i : Int) ≤ IntKind.i64.max,
 (↑b + ↑i : Int) = ↑(b + i),
 (0 : Int) ≤ ↑(b + i),
 (↑(b + i) : Int) < ↑n,
 (((0 : Nat) : Nat) < ((List.drop (b + i + (0 : Nat)) (nats D)).length)),
 avEq ((List.drop (b + i + (0 : Nat)) (nats D)).headD AV.any) ((AV.c ((Value.int .i64 ((↑y : Int)))))),
 (IntKind.i64.min : Int) ≤ ↑a + ↑i,
 (↑a + ↑i : Int) ≤ IntKind.i64.max,
 (↑a + ↑i : Int) = ↑(a + i),
 (0 : Int) ≤ ↑(a + i),
 (↑(a + i) : Int) < ↑n,
 (((0 : Nat) : Nat) < ((List.drop (a + i + (0 : Nat)) (nats D)).length)),
 avEq ((List.drop (a + i + (0 : Nat)) (nats D)).headD AV.any) ((AV.c ((Value.int .i64 ((↑x : Int)))))),
 (0 : Int) ≤ ↑(a + i),
 (↑(a + i) : Int) < ↑n,
 ((a + i + (0 : Nat) + (1 : Nat) : Nat) ≤ ((nats D).length)),
 avEq (AV.any) (AV.any),
 ((List.take (a + i + (0 : Nat)) (nats D) ++ [AV.c (Value.int IntKind.i64 (↑y : Int))] ++ List.drop (a + i + (0 : Nat) + (1 : Nat)) (nats D) : List AV)) = (nats D1),
 (0 : Int) ≤ ↑(b + i),
 (↑(b + i) : Int) < ↑n,
 ((b + i + (0 : Nat) + (1 : Nat) : Nat) ≤ ((nats D1).length)),
 avEq (AV.any) (AV.any),
 ((List.take (b + i + (0 : Nat)) (nats D1) ++ [AV.c (Value.int IntKind.i64 (↑x : Int))] ++ List.drop (b + i + (0 : Nat) + (1 : Nat)) (nats D1) : List AV)) = (nats D2),
 (IntKind.i64.min : Int) ≤ ↑i + 1,
 (↑i + 1 : Int) ≤ IntKind.i64.max], lpBy_nilK, by decide, by kernel_rfl, ?_⟩
  all_goals try simp (disch := omega) only [std, List.length_drop, hD, hD1]
  all_goals repeat' apply And.intro
  all_goals first | exact True.intro | omega | with_reducible rfl | with_reducible assumption | exact hx | exact hy | exact hs1 | exact hs2 | exact hx | exact hy | exact hs1 | exact hs2 | exact hD | exact hD1 | rfl


theorem swZ_all (D D1 D2 : List Nat) (n k a b c i x y : Nat) (C : List AV) (hi : i = c) (hn : n ≤ 255) (hc : c ≤ 255) (hD : (nats D).length = n) (hD1 : (nats D1).length = n) : RoundK 2 Try.prog cl0 (lbody Try.prog 57 1) (swS D n k a b c i C) (.exit 0) (swS D n k a b c i C) := by
  refine ⟨⟨true, (bs [(13, false)] ++ [(19, ⟨.c (.int .i64 (a + i : Nat)), none⟩), (23, ⟨.c (.int .i64 (b + i : Nat)), none⟩), (27, ⟨.c (.int .i64 (b + i : Nat)), none⟩), (29, ⟨.c (.int .i64 y), none⟩), (33, ⟨.c (.int .i64 (a + i : Nat)), none⟩), (35, ⟨.c (.int .i64 x), none⟩), (100036, ⟨.any, some (nats D1)⟩), (100037, ⟨.any, some (nats D2)⟩)])⟩, _, 60, ⟨[], [0, 1, 2, 3, 10], [0, 1]⟩, [decide ((↑i : Int) < ↑c) = false], lpBy_nilK, by decide, by kernel_rfl, ?_⟩
  all_goals try simp (disch := omega) only [std, List.length_drop, hD, hD1]
  all_goals repeat' apply And.intro
  all_goals first | exact True.intro | omega | with_reducible rfl | with_reducible assumption | exact hx | exact hy | exact hs1 | exact hs2 | exact hi | exact hD | exact hD1 | rfl

theorem nats_av {D : List Nat} {i x : Nat} (h : i < D.length) (e : D.getD i 0 = x) : avEq (((nats D).drop i).headD .any) (.c (.int .i64 x)) := by
  rw [nats_at D i h, e]; exact avEq_refl _

/-- What exchanging two pieces of a row makes. -/
def swD (D : List Nat) (a b c : Nat) : List Nat := D.take a ++ (seg D b (b + c) ++ (seg D (a + c) b ++ (seg D a (a + c) ++ D.drop (b + c))))
def swSpec : HSpec
  | [.sl 0 0 n, .c (.int .i64 a), .c (.int .i64 b), .c (.int .i64 c), .fn f [.pt 1 0]], [some ⟨t, false, C⟩, some ⟨t2, true, [.fs s k l]⟩] => if (t = 3 ∧ t2 = 22) ∧ (f = 37 ∧ s = 1) then
      some (.tu [], srH (swD (unnats C) a.toNat b.toNat c.toNat) k l, [C = nats (unnats C), (unnats C).length = n, n ≤ 255, 0 ≤ a, 0 ≤ c, a + c ≤ b, b + c ≤ n]) else none
  | _, _ => none

theorem sw_walk (P U M V R : List Nat) (k : Nat) (C : List AV) (hV : V.length = U.length) (hn : P.length + U.length + M.length + U.length + R.length ≤ 255) :
    Tri (ExtK 2) Try.prog (.loop (lbody Try.prog 57 1)) (swS (exch P U M V R 0) (P.length + U.length + M.length + U.length + R.length) k P.length (P.length + U.length + M.length) U.length 0 C) (.exit 0)
      (swS (exch P U M V R U.length) (P.length + U.length + M.length + U.length + R.length) k P.length (P.length + U.length + M.length) U.length U.length C) := by
  refine loop_upK mixed cl0_ok (fun i => swS (exch P U M V R i) (P.length + U.length + M.length + U.length + R.length) k P.length (P.length + U.length + M.length) U.length i C) U.length (by simp) (fun i hi => ?_) ?_ 0 (Nat.zero_le _)
  · obtain ⟨e1, e2, e3⟩ := exch_step (P := P) (M := M) (R := R) (a := P.length) (b := P.length + U.length + M.length) hV hi rfl rfl
    have hl := exch_len (P := P) (M := M) (R := R) i hV
    refine swA_all (exch P U M V R i) ((exch P U M V R i).set (P.length + i) (V.getD i 0)) (exch P U M V R (i + 1)) _ k _ _ _ i (U.getD i 0) (V.getD i 0) C hi (by omega) (by omega) (nats_av (by omega) e1) (nats_av (by omega) e2) (nats_set _ _ _ (by omega)) ?_ hn (by omega) (by rw [nats_length]; exact hl) (by rw [nats_length, List.length_set]; exact hl)
    rw [nats_set _ _ _ (by rw [List.length_set]; omega), e3]
  · exact swZ_all (exch P U M V R U.length) (exch P U M V R U.length) [] _ k _ _ U.length U.length 0 0 C rfl hn (by omega) (by rw [nats_length]; exact exch_len _ hV) (by rw [nats_length]; exact exch_len _ hV)

noncomputable def swLp (D D2 : List Nat) (n k a b c : Nat) (C : List AV) : List (Nat × Lp) := [(1, ⟨lbody Try.prog 57 1, ⟨[], [0, 1, 2, 3, 10], [0, 1]⟩, swS D n k a b c 0 C, .exit 0, swS D2 n k a b c c C⟩)]

theorem swb_all (D D2 : List Nat) (n k a b c : Nat) (C : List AV)  : ∃ (h : Hints) (p : List Prop), outKill [] (aBody Try.prog cl0 h (lpBy (swLp D D2 n k a b c C)) 60 57 ([.sl 0 0 n, .c (.int .i64 a), .c (.int .i64 b), .c (.int .i64 c), srF]) (srH D k C)) = some (.tu [], srH D2 k C, p) ∧ allP p := by
  refine ⟨⟨true, bs []⟩, [((lbody Try.prog (57 : FuncId) (1 : Nat) : Go.Code)) = (lbody Try.prog (57 : FuncId) (1 : Nat)),
 ((swS D n k a b c (0 : Nat) C : Go.Proofs.Ytljgmgbjfjhjmaa.St)) = (swS D n k a b c (0 : Nat) C)], by kernel_rfl, ?_⟩
  all_goals try simp (disch := omega) only [std]
  all_goals repeat' apply And.intro
  all_goals first | exact True.intro | omega | with_reducible rfl | with_reducible assumption | rfl

theorem exch_is (P U M V R : List Nat) (h : V.length = U.length) : swD (P ++ (U ++ (M ++ (V ++ R)))) P.length (P.length + U.length + M.length) U.length = exch P U M V R U.length := by
  rw [exch_all h]
  unfold swD
  have e1 : (P ++ (U ++ (M ++ (V ++ R)))).take P.length = P := List.take_left
  have e2 : seg (P ++ (U ++ (M ++ (V ++ R)))) P.length (P.length + U.length) = U := seg_at rfl rfl
  have e3 : seg (P ++ (U ++ (M ++ (V ++ R)))) (P.length + U.length) (P.length + U.length + M.length) = M := by
    rw [← List.append_assoc P U]; exact seg_at (by simp) rfl
  have e4 : seg (P ++ (U ++ (M ++ (V ++ R)))) (P.length + U.length + M.length) (P.length + U.length + M.length + U.length) = V := by
    rw [← List.append_assoc P U, ← List.append_assoc (P ++ U) M]; exact seg_at (by simp; omega) (by rw [h])
  have e5 : (P ++ (U ++ (M ++ (V ++ R)))).drop (P.length + U.length + M.length + U.length) = R := by
    rw [← List.append_assoc P U, ← List.append_assoc (P ++ U) M, ← List.append_assoc (P ++ U ++ M) V, show P.length + U.length + M.length + U.length = (P ++ U ++ M ++ V).length by simp; omega, List.drop_left]
  rw [e1, e2, e3, e4, e5]

theorem sw_at (P U M V R : List Nat) (k : Nat) (C : List AV) (hV : V.length = U.length) {n a b c : Nat} (hn : P.length + U.length + M.length + U.length + R.length = n) (ha : P.length = a) (hb : P.length + U.length + M.length = b) (hc : U.length = c) (h : n ≤ 255) :
    ∃ ks hs lp fuel p, LpOK (ExtK 2) Try.prog lp ∧ outKill ks (aBody Try.prog cl0 hs lp fuel 57 [.sl 0 0 n, .c (.int .i64 a), .c (.int .i64 b), .c (.int .i64 c), srF] (srH (P ++ (U ++ (M ++ (V ++ R)))) k C)) = some (.tu [], srH (swD (P ++ (U ++ (M ++ (V ++ R)))) a b c) k C, p) ∧ allP p := by
  subst hn ha hb hc
  have w := sw_walk P U M V R k C hV h
  rw [exch_is _ _ _ _ _ hV]
  rw [exch_0] at w
  obtain ⟨hh, p, e, hp⟩ := swb_all (P ++ (U ++ (M ++ (V ++ R)))) (exch P U M V R U.length) (P.length + U.length + M.length + U.length + R.length) k P.length (P.length + U.length + M.length) U.length C
  exact ⟨_, _, _, _, _, lpBy_consK lpBy_nilK kp2 w, e, hp⟩

/-- A row in five pieces. -/
theorem dec5 (D : List Nat) {a b c : Nat} (h1 : a + c ≤ b) (h2 : b + c ≤ D.length) : ∃ P U M V R, D = P ++ (U ++ (M ++ (V ++ R))) ∧ P.length = a ∧ U.length = c ∧ M.length = b - (a + c) ∧ V.length = c := by
  refine ⟨D.take a, seg D a (a + c), seg D (a + c) b, seg D b (b + c), D.drop (b + c), ?_, by rw [List.length_take]; omega, by rw [seg_len D (by omega)]; omega, by rw [seg_len D (by omega)], by rw [seg_len D (by omega)]; omega⟩
  have k : ∀ i j, i ≤ j → seg D i j ++ D.drop j = D.drop i := by
    intro i j hij
    unfold seg
    conv => rhs; rw [← List.take_append_drop j D]
    rw [List.drop_append]
    by_cases hj : j ≤ D.length
    · rw [List.length_take, Nat.min_eq_left hj, Nat.sub_eq_zero_of_le hij, List.drop_zero]
    · rw [List.drop_of_length_le (show D.length ≤ j by omega)]; simp
  rw [k _ _ (by omega), k _ _ (by omega), k _ _ (by omega), List.take_append_drop]

theorem sw_ok : HSpecOK Try.prog 57 swSpec := by
  refine hspec_lp mixed cl0_ok fun args hp r hp' q hs hq => ?_
  unfold swSpec at hs
  split at hs
  · rename_i n a b c f t C t2 s k l
    split at hs
    · rename_i hc
      obtain ⟨⟨rfl, rfl⟩, rfl, rfl⟩ := hc
      simp only [Option.some.injEq, Prod.mk.injEq] at hs
      obtain ⟨rfl, rfl, rfl⟩ := hs
      obtain ⟨h1, h2, h3, h4, h5, h6, h7, _⟩ := hq
      obtain ⟨a, rfl⟩ : ∃ k : Nat, a = (k : Int) := ⟨a.toNat, by omega⟩
      obtain ⟨b, rfl⟩ : ∃ k : Nat, b = (k : Int) := ⟨b.toNat, by omega⟩
      obtain ⟨c, rfl⟩ : ∃ k : Nat, c = (k : Int) := ⟨c.toNat, by omega⟩
      simp only [Int.toNat_natCast]
      generalize unnats C = D at *
      subst h1
      obtain ⟨P, U, M, V, R, rfl, e1, e2, e3, e4⟩ := dec5 D (a := a) (b := b) (c := c) (by omega) (by omega)
      simp only [List.length_append] at h2
      exact sw_at P U M V R k l (by omega) (by omega) e1 (by omega) e2 h3
    · simp at hs
  · simp at hs

end Go.Proofs.Ytljgmgbjfjhjmaa
