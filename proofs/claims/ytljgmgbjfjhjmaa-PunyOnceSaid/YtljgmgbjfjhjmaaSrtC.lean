/- The library's stable sort at rows of numbers: blocks sorted by insertion. -/
import Derived.Test.YtljgmgbjfjhjmaaSrtB
namespace Go.Proofs.Ytljgmgbjfjhjmaa
open Go.RowKit Srt
set_option linter.unusedVariables false
set_option linter.unusedSimpArgs false

/-- A place's key. -/
def keyL (L : List Int) (i : Nat) : Int := L.getD i 0
/-- Places that there are. -/
def BdR (D : List Nat) (k : Nat) : Prop := ∀ z ∈ D, z < k

/-! One more, put in from behind. -/
def inS (D : List Nat) (n a b i j : Nat) (L : List Int) : St := ⟨frame 53 [(0, .sl 0 0 n), (1, .c (.int .i64 a)), (2, .c (.int .i64 b)), (3, srF), (8, .c (.int .i64 i)), (9, .c (.int .i64 j))], srH D L.length (rowN L)⟩
def isO (D : List Nat) (n a b i : Nat) (L : List Int) : St := ⟨frame 53 [(0, .sl 0 0 n), (1, .c (.int .i64 a)), (2, .c (.int .i64 b)), (3, srF), (8, .c (.int .i64 i))], srH D L.length (rowN L)⟩

theorem inA_all (D D1 D2 : List Nat) (n a b i j x y : Nat) (z : Int) (L : List Int) (hja : a < j) (hz0 : z < 0) (hn : n ≤ 255) (hj : j < n) (hx : avEq (((nats D).drop j).headD .any) (.c (.int .i64 x))) (hy : avEq (((nats D).drop (j - 1)).headD .any) (.c (.int .i64 y))) (hz : L.getD x 0 - L.getD y 0 = z) (hxl : x < L.length) (hyl : y < L.length) (hsm : SmI L) (hs1 : (nats D).take j ++ [.c (.int .i64 y)] ++ (nats D).drop (j + 1) = nats D1) (hs2 : (nats D1).take (j - 1) ++ [.c (.int .i64 x)] ++ (nats D1).drop (j - 1 + 1) = nats D2) (hD : (nats D).length = n) (hD1 : (nats D1).length = n) : RoundK 2 Try.prog clCm (lbody Try.prog 51 4) (inS D n a b i j L) (.normal) (inS D2 n a b i (j - 1) L) := by
  refine ⟨⟨true, (bs [(20, true), (33, true)] ++ [(26, ⟨.c (.int .i64 x), none⟩), (29, ⟨.c (.int .i64 (j - 1 : Nat)), none⟩), (31, ⟨.c (.int .i64 y), none⟩), (32, ⟨.c (.int .i64 z), none⟩), (41, ⟨.c (.int .i64 (j - 1 : Nat)), none⟩), (44, ⟨.c (.int .i64 (j - 1 : Nat)), none⟩), (46, ⟨.c (.int .i64 y), none⟩), (50, ⟨.c (.int .i64 x), none⟩), (100051, ⟨.any, some (nats D1)⟩), (100052, ⟨.any, some (nats D2)⟩), (36, ⟨.c (.int .i64 (j - 1 : Nat)), none⟩)])⟩, _, 60, ⟨[], [0, 1, 2, 3, 8, 9], [0, 1]⟩, [decide ((↑j : Int) > ↑a) = true,
 (0 : Int) ≤ ↑j,
 (↑j : Int) < ↑n,
 (((0 : Nat) : Nat) < ((List.drop (j + (0 : Nat)) (nats D)).length)),
 avEq ((List.drop (j + (0 : Nat)) (nats D)).headD AV.any) ((AV.c ((Value.int .i64 ((↑x : Int)))))),
 (IntKind.i64.min : Int) ≤ ↑j - 1,
 (↑j - 1 : Int) ≤ IntKind.i64.max,
 (↑j - 1 : Int) = ↑(j - 1),
 (0 : Int) ≤ ↑(j - 1),
 (↑(j - 1) : Int) < ↑n,
 (((0 : Nat) : Nat) < ((List.drop (j - (1 : Nat) + (0 : Nat)) (nats D)).length)),
 avEq ((List.drop (j - (1 : Nat) + (0 : Nat)) (nats D)).headD AV.any) ((AV.c ((Value.int .i64 ((↑y : Int)))))),
 (((1 : Nat) : Nat)) = ((1 : Nat)),
 ((rowN L : List AV)) = (rowN (unI (rowN L))),
 ((L.length : Nat)) = ((unI (rowN L)).length),
 SmI (unI (rowN L)),
 (0 : Int) ≤ ↑x,
 (↑x : Int) < ↑L.length,
 (0 : Int) ≤ ↑y,
 (↑y : Int) < ↑L.length,
 (flatV [] (AV.c (Value.int IntKind.i64 ((unI (rowN L)).getD x (0 : Int) - (unI (rowN L)).getD y (0 : Int))))) = true,
 (((unI (rowN L)).getD x (0 : Int) - (unI (rowN L)).getD y (0 : Int) : Int)) = (z),
 decide ((z : Int) < 0) = true,
 (IntKind.i64.min : Int) ≤ ↑j - 1,
 (↑j - 1 : Int) ≤ IntKind.i64.max,
 (↑j - 1 : Int) = ↑(j - 1),
 (IntKind.i64.min : Int) ≤ ↑j - 1,
 (↑j - 1 : Int) ≤ IntKind.i64.max,
 (↑j - 1 : Int) = ↑(j - 1),
 (0 : Int) ≤ ↑(j - 1),
 (↑(j - 1) : Int) < ↑n,
 (((0 : Nat) : Nat) < ((List.drop (j - (1 : Nat) + (0 : Nat)) (nats D)).length)),
 avEq ((List.drop (j - (1 : Nat) + (0 : Nat)) (nats D)).headD AV.any) ((AV.c ((Value.int .i64 ((↑y : Int)))))),
 (0 : Int) ≤ ↑j,
 (↑j : Int) < ↑n,
 (((0 : Nat) : Nat) < ((List.drop (j + (0 : Nat)) (nats D)).length)),
 avEq ((List.drop (j + (0 : Nat)) (nats D)).headD AV.any) ((AV.c ((Value.int .i64 ((↑x : Int)))))),
 (0 : Int) ≤ ↑j,
 (↑j : Int) < ↑n,
 ((j + (0 : Nat) + (1 : Nat) : Nat) ≤ ((nats D).length)),
 avEq (AV.any) (AV.any),
 ((List.take (j + (0 : Nat)) (nats D) ++ [AV.c (Value.int IntKind.i64 (↑y : Int))] ++ List.drop (j + (0 : Nat) + (1 : Nat)) (nats D) : List AV)) = (nats D1),
 (0 : Int) ≤ ↑(j - 1),
 (↑(j - 1) : Int) < ↑n,
 ((j - (1 : Nat) + (0 : Nat) + (1 : Nat) : Nat) ≤ ((nats D1).length)),
 avEq (AV.any) (AV.any),
 ((List.take (j - (1 : Nat) + (0 : Nat)) (nats D1) ++ [AV.c (Value.int IntKind.i64 (↑x : Int))] ++ List.drop (j - (1 : Nat) + (0 : Nat) + (1 : Nat)) (nats D1) : List AV)) = (nats D2),
 (IntKind.i64.min : Int) ≤ ↑j - 1,
 (↑j - 1 : Int) ≤ IntKind.i64.max,
 (↑j - 1 : Int) = ↑(j - 1)], lpBy_nilK, by decide, by kernel_rfl, ?_⟩
  all_goals try simp (disch := omega) only [std, List.length_drop, hD, hD1, unI_rowN]
  all_goals repeat' apply And.intro
  all_goals first | exact True.intro | omega | with_reducible rfl | with_reducible assumption | exact hx | exact hy | exact hs1 | exact hs2 | exact hz | exact hsm | exact hx | exact hy | exact hz | exact hsm | exact hs1 | exact hs2 | exact hD | exact hD1 | rfl


theorem inY_all (D D1 D2 : List Nat) (n a b i j x y : Nat) (z : Int) (L : List Int) (hja : a < j) (hz0 : ¬ z < 0) (hn : n ≤ 255) (hj : j < n) (hx : avEq (((nats D).drop j).headD .any) (.c (.int .i64 x))) (hy : avEq (((nats D).drop (j - 1)).headD .any) (.c (.int .i64 y))) (hz : L.getD x 0 - L.getD y 0 = z) (hxl : x < L.length) (hyl : y < L.length) (hsm : SmI L) (hs1 : (nats D).take j ++ [.c (.int .i64 y)] ++ (nats D).drop (j + 1) = nats D1) (hs2 : (nats D1).take (j - 1) ++ [.c (.int .i64 x)] ++ (nats D1).drop (j - 1 + 1) = nats D2) (hD : (nats D).length = n) (hD1 : (nats D1).length = n) : RoundK 2 Try.prog clCm (lbody Try.prog 51 4) (inS D n a b i j L) (.exit 2) (isO D n a b i L) := by
  refine ⟨⟨true, (bs [(20, true), (33, false)] ++ [(26, ⟨.c (.int .i64 x), none⟩), (29, ⟨.c (.int .i64 (j - 1 : Nat)), none⟩), (31, ⟨.c (.int .i64 y), none⟩), (32, ⟨.c (.int .i64 z), none⟩), (41, ⟨.c (.int .i64 (j - 1 : Nat)), none⟩), (44, ⟨.c (.int .i64 (j - 1 : Nat)), none⟩), (46, ⟨.c (.int .i64 y), none⟩), (50, ⟨.c (.int .i64 x), none⟩), (100051, ⟨.any, some (nats D1)⟩), (100052, ⟨.any, some (nats D2)⟩), (36, ⟨.c (.int .i64 (j - 1 : Nat)), none⟩)])⟩, _, 60, ⟨[], [0, 1, 2, 3, 8], [0, 1]⟩, [decide ((↑j : Int) > ↑a) = true,
 (0 : Int) ≤ ↑j,
 (↑j : Int) < ↑n,
 (((0 : Nat) : Nat) < ((List.drop (j + (0 : Nat)) (nats D)).length)),
 avEq ((List.drop (j + (0 : Nat)) (nats D)).headD AV.any) ((AV.c ((Value.int .i64 ((↑x : Int)))))),
 (IntKind.i64.min : Int) ≤ ↑j - 1,
 (↑j - 1 : Int) ≤ IntKind.i64.max,
 (↑j - 1 : Int) = ↑(j - 1),
 (0 : Int) ≤ ↑(j - 1),
 (↑(j - 1) : Int) < ↑n,
 (((0 : Nat) : Nat) < ((List.drop (j - (1 : Nat) + (0 : Nat)) (nats D)).length)),
 avEq ((List.drop (j - (1 : Nat) + (0 : Nat)) (nats D)).headD AV.any) ((AV.c ((Value.int .i64 ((↑y : Int)))))),
 (((1 : Nat) : Nat)) = ((1 : Nat)),
 ((rowN L : List AV)) = (rowN (unI (rowN L))),
 ((L.length : Nat)) = ((unI (rowN L)).length),
 SmI (unI (rowN L)),
 (0 : Int) ≤ ↑x,
 (↑x : Int) < ↑L.length,
 (0 : Int) ≤ ↑y,
 (↑y : Int) < ↑L.length,
 (flatV [] (AV.c (Value.int IntKind.i64 ((unI (rowN L)).getD x (0 : Int) - (unI (rowN L)).getD y (0 : Int))))) = true,
 (((unI (rowN L)).getD x (0 : Int) - (unI (rowN L)).getD y (0 : Int) : Int)) = (z),
 decide ((z : Int) < 0) = false], lpBy_nilK, by decide, by kernel_rfl, ?_⟩
  all_goals try simp (disch := omega) only [std, List.length_drop, hD, hD1, unI_rowN]
  all_goals repeat' apply And.intro
  all_goals first | exact True.intro | omega | with_reducible rfl | with_reducible assumption | exact hx | exact hy | exact hs1 | exact hs2 | exact hz | exact hsm | exact hx | exact hy | exact hz | exact hsm | exact hs1 | exact hs2 | exact hD | exact hD1 | rfl

theorem inZ_all (D : List Nat) (n a b i j : Nat) (L : List Int) (hja : j = a) : RoundK 2 Try.prog clCm (lbody Try.prog 51 4) (inS D n a b i j L) (.exit 2) (isO D n a b i L) := by
  refine ⟨⟨true, (bs [(20, false)])⟩, _, 60, ⟨[], [0, 1, 2, 3, 8], [0, 1]⟩, [decide ((↑j : Int) > ↑a) = false], lpBy_nilK, by decide, by kernel_rfl, ?_⟩
  all_goals try simp (disch := omega) only [std]
  all_goals repeat' apply And.intro
  all_goals first | exact True.intro | omega | with_reducible rfl | with_reducible assumption | exact hja | rfl

theorem in_walk (P T R : List Nat) (y : Nat) (b i : Nat) (L : List Int) {n : Nat} (hn : P.length + T.length + 1 + R.length = n) (hn2 : n ≤ 255) (hT : Sor (keyL L) T) (hlt : ∀ z ∈ T, z < y) (hsm : SmI L) (hbT : BdR T L.length) (hby : y < L.length) :
    Tri (ExtK 2) Try.prog (.loop (lbody Try.prog 51 4)) (inS (hop P T y R T.length) n P.length b i (P.length + T.length) L) (.exit 2) (isO (P ++ (so (keyL L) (T ++ [y]) ++ R)) n P.length b i L) := by
  have fin : ∀ u, u ≤ T.length → (∀ i, u ≤ i → i < T.length → keyL L y < keyL L (T.getD i 0)) → (u = 0 ∨ ¬ keyL L y < keyL L (T.getD (u - 1) 0)) → hop P T y R u = P ++ (so (keyL L) (T ++ [y]) ++ R) := by
    intro u hu h1 h2
    rw [hop_put]
    congr 2
    refine so_ins (by rw [List.take_append_drop]; exact hT) (fun s hs => ?_) (fun s hs => ?_) (by rw [List.take_append_drop]; exact (List.perm_append_singleton y T).symm)
    · obtain ⟨k, hk, rfl⟩ := mem_getD hs
      have hm := hlt _ (List.mem_of_mem_take hs)
      rw [List.length_take] at hk
      rw [getD_take (by omega)] at hm ⊢
      have := so_mono hT (i := k) (j := u - 1) (by omega) (by omega)
      have h2 := h2.resolve_left (by omega)
      rw [le_iff]; omega
    · obtain ⟨k, hk, rfl⟩ := mem_getD hs
      rw [List.length_drop] at hk
      rw [getD_drop]
      have := h1 (u + k) (by omega) (by omega)
      rw [le_iff]; omega
  refine loop_invK mixed clCm_ok (fun u : Nat => inS (hop P T y R u) n P.length b i (P.length + u) L) (fun u => u ≤ T.length ∧ ∀ i, u ≤ i → i < T.length → keyL L y < keyL L (T.getD i 0)) (fun u => u) (fun u hu => ?_) T.length ⟨Nat.le_refl _, fun i h1 h2 => by omega⟩
  obtain ⟨h1, h2⟩ := hu
  have hl := hop_len P T y R u
  have hD : (nats (hop P T y R u)).length = n := by rw [nats_length]; omega
  have ey := hop_at (P := P) (U := T) (R := R) (y := y) h1 rfl
  cases u with
  | zero =>
    rw [← fin 0 h1 h2 (.inl rfl)]
    exact .inr ⟨by simp, inZ_all (hop P T y R 0) n P.length b i (P.length + 0) L rfl⟩
  | succ v =>
    have ex := hop_back (P := P) (U := T) (R := R) (y := y) (u := v) (i := P.length + (v + 1) - 1) (by omega) (by omega)
    have hbv : T.getD v 0 < L.length := hbT _ (by
      have e : T.getD v 0 = T[v] := by simp [List.getD, show v < T.length by omega]
      rw [e]; exact List.getElem_mem _)
    have hst := hop_down (P := P) (U := T) (R := R) (y := y) (u := v) (i := P.length + v) (by omega) rfl
    have hst2 : (nats ((hop P T y R (v + 1)).set (P.length + v + 1) (T.getD v 0))).take (P.length + v) ++ [.c (.int .i64 y)] ++ (nats ((hop P T y R (v + 1)).set (P.length + v + 1) (T.getD v 0))).drop (P.length + v + 1) = nats (hop P T y R v) := by
      rw [nats_set _ _ _ (by rw [List.length_set]; omega), hst]
    by_cases hlt2 : keyL L y < keyL L (T.getD v 0)
    · refine .inl ⟨v, ⟨by omega, fun i h3 h4 => ?_⟩, by omega, ?_⟩
      · rcases Nat.eq_or_lt_of_le h3 with rfl | h3
        · exact hlt2
        · exact h2 i h3 h4
      · exact inA_all (hop P T y R (v + 1)) ((hop P T y R (v + 1)).set (P.length + v + 1) (T.getD v 0)) (hop P T y R v) n P.length b i (P.length + (v + 1)) y (T.getD v 0) _ L (by omega) (by have : L.getD y 0 < L.getD (T.getD v 0) 0 := hlt2; omega) hn2 (by omega) (nats_av (by omega) ey) (nats_av (by omega) ex) rfl hby hbv hsm (nats_set _ _ _ (by omega)) (hst2) hD (by rw [nats_length, List.length_set]; omega)
    · rw [← fin (v + 1) h1 h2 (.inr hlt2)]
      exact .inr ⟨by simp, inY_all (hop P T y R (v + 1)) ((hop P T y R (v + 1)).set (P.length + v + 1) (T.getD v 0)) (hop P T y R v) n P.length b i (P.length + (v + 1)) y (T.getD v 0) _ L (by omega) (by have : ¬ L.getD y 0 < L.getD (T.getD v 0) 0 := hlt2; omega) hn2 (by omega) (nats_av (by omega) ey) (nats_av (by omega) ex) rfl hby hbv hsm (nats_set _ _ _ (by omega)) (hst2) hD (by rw [nats_length, List.length_set]; omega)⟩

/-! One block. -/
noncomputable def inLp (D D2 : List Nat) (n a b i : Nat) (L : List Int) : List (Nat × Lp) := [(4, ⟨lbody Try.prog 51 4, ⟨[], [0, 1, 2, 3, 8, 9], [0, 1]⟩, inS D n a b i i L, .exit 2, isO D2 n a b i L⟩)]

theorem isA_all (D D2 : List Nat) (n a b i : Nat) (L : List Int) (hi : i < b) (hlp : LpOK (ExtK 2) Try.prog (lpBy (inLp D D2 n a b i L))) (hn : n ≤ 255) (hb : b ≤ n) : RoundK 2 Try.prog clCm (lbody Try.prog 51 1) (isO D n a b i L) (.normal) (isO D2 n a b (i + 1) L) := by
  refine ⟨⟨true, (bs [(14, true)])⟩, _, 60, ⟨[], [0, 1, 2, 3, 8], [0, 1]⟩, [decide ((↑i : Int) < ↑b) = true,
 ((lbody Try.prog (51 : FuncId) (4 : Nat) : Go.Code)) = (lbody Try.prog (51 : FuncId) (4 : Nat)),
 ((inS D n a b i i L : Go.Proofs.Ytljgmgbjfjhjmaa.St)) = (inS D n a b i i L),
 (IntKind.i64.min : Int) ≤ ↑i + 1,
 (↑i + 1 : Int) ≤ IntKind.i64.max], hlp, by decide, by kernel_rfl, ?_⟩
  all_goals try simp (disch := omega) only [std]
  all_goals repeat' apply And.intro
  all_goals first | exact True.intro | omega | with_reducible rfl | with_reducible assumption | exact hlp | rfl


theorem isZ_all (D D2 : List Nat) (n a b i : Nat) (L : List Int) (hi : ¬ i < b) (hn : n ≤ 255) (hb : b ≤ n) : RoundK 2 Try.prog clCm (lbody Try.prog 51 1) (isO D n a b i L) (.exit 0) (isO D n a b i L) := by
  refine ⟨⟨true, (bs [(14, false)])⟩, _, 60, ⟨[], [0, 1, 2, 3, 8], [0, 1]⟩, [decide ((↑i : Int) < ↑b) = false], lpBy_nilK, by decide, by kernel_rfl, ?_⟩
  all_goals try simp (disch := omega) only [std]
  all_goals repeat' apply And.intro
  all_goals first | exact True.intro | omega | with_reducible rfl | with_reducible assumption | rfl

theorem take_snoc {l : List Nat} {k : Nat} (h : k < l.length) : l.take (k + 1) = l.take k ++ [l.getD k 0] := by
  rw [List.take_add_one]; simp [List.getD, h]
theorem drop_step {l : List Nat} {k : Nat} (h : k < l.length) : l.drop k = l.getD k 0 :: l.drop (k + 1) := by
  rw [List.drop_eq_getElem_cons h]; simp [List.getD, h]
theorem inc_take {X : List Nat} (h : X.Pairwise (· < ·)) {k : Nat} (hk : k < X.length) : ∀ z ∈ X.take k, z < X.getD k 0 := by
  intro z hz
  obtain ⟨i, hi, rfl⟩ := mem_getD hz
  rw [List.length_take] at hi
  rw [getD_take (by omega)]
  have := List.pairwise_iff_getElem.1 h i k (by omega) hk (by omega)
  simpa [List.getD, show i < X.length by omega, hk] using this

theorem is_walk (P X Q : List Nat) (L : List Int) {n : Nat} (hn : P.length + X.length + Q.length = n) (hn2 : n ≤ 255) (hX : X.Pairwise (· < ·)) (hsm : SmI L) (hb : BdR X L.length) :
    Tri (ExtK 2) Try.prog (.loop (lbody Try.prog 51 1)) (isO (P ++ (X ++ Q)) n P.length (P.length + X.length) (P.length + 1) L) (.exit 0) (isO (P ++ (so (keyL L) X ++ Q)) n P.length (P.length + X.length) (max (P.length + 1) (P.length + X.length)) L) := by
  have e0 : P ++ (X ++ Q) = P ++ (so (keyL L) (X.take 1) ++ (X.drop 1 ++ Q)) := by
    cases X with
    | nil => rw [List.take_nil, so_nil]; rfl
    | cons x r => rw [List.take_succ_cons, List.take_zero, so_one]; rfl
  rw [e0]
  refine loop_invK mixed clCm_ok (fun i : Nat => isO (P ++ (so (keyL L) (X.take (i + 1)) ++ (X.drop (i + 1) ++ Q))) n P.length (P.length + X.length) (P.length + 1 + i) L) (fun i => i = 0 ∨ i + 1 ≤ X.length) (fun i => X.length - i) (fun i hi => ?_) 0 (.inl rfl)
  by_cases h : i + 1 < X.length
  · have hT := so_sor (keyL L) (X.take (i + 1))
    have hTl : (so (keyL L) (X.take (i + 1))).length = i + 1 := by rw [so_len, List.length_take]; omega
    have w := in_walk P (so (keyL L) (X.take (i + 1))) (X.drop (i + 2) ++ Q) (X.getD (i + 1) 0) (P.length + X.length) (P.length + 1 + i) L (n := n) (by rw [hTl, List.length_append, List.length_drop]; omega) hn2 hT
      (fun z hz => inc_take hX h z (so_mem.1 hz)) hsm (fun z hz => hb z (List.mem_of_mem_take (so_mem.1 hz))) (hb _ (by
        have e : X.getD (i + 1) 0 = X[i + 1] := by simp [List.getD, h]
        rw [e]; exact List.getElem_mem _))
    rw [hop_all, hTl] at w
    have e1 : P ++ (so (keyL L) (X.take (i + 1)) ++ [X.getD (i + 1) 0] ++ (X.drop (i + 2) ++ Q)) = P ++ (so (keyL L) (X.take (i + 1)) ++ (X.drop (i + 1) ++ Q)) := by
      rw [drop_step h]; simp
    have e2 : so (keyL L) (so (keyL L) (X.take (i + 1)) ++ [X.getD (i + 1) 0]) = so (keyL L) (X.take (i + 1 + 1)) := by
      rw [take_snoc h]
      exact so_same ((so_perm _ _).append_right _)
    rw [e1, e2] at w
    refine .inl ⟨i + 1, .inr h, by omega, ?_⟩
    exact isA_all (P ++ (so (keyL L) (X.take (i + 1)) ++ (X.drop (i + 1) ++ Q))) (P ++ (so (keyL L) (X.take (i + 1 + 1)) ++ (X.drop (i + 1 + 1) ++ Q))) n P.length (P.length + X.length) (P.length + 1 + i) L (by omega)
      (lpBy_consK lpBy_nilK kp2 (by rw [show P.length + (i + 1) = P.length + 1 + i by omega] at w; exact w)) hn2 (by omega)
  · have e1 : X.take (i + 1) = X := List.take_of_length_le (by omega)
    have e2 : X.drop (i + 1) = [] := List.drop_of_length_le (by omega)
    rw [e1, e2, List.nil_append]
    have e3 : P.length + 1 + i = max (P.length + 1) (P.length + X.length) := by omega
    rw [e3]
    exact .inr ⟨by simp, isZ_all (P ++ (so (keyL L) X ++ Q)) [] n P.length (P.length + X.length) _ L (by omega) hn2 (by omega)⟩

noncomputable def isLp (D D2 : List Nat) (n a b i : Nat) (L : List Int) : List (Nat × Lp) := [(1, ⟨lbody Try.prog 51 1, ⟨[], [0, 1, 2, 3, 8], [0, 1]⟩, isO D n a b (a + 1) L, .exit 0, isO D2 n a b i L⟩)]

theorem isb_all (D D2 : List Nat) (n a b i : Nat) (L : List Int) (hn : n ≤ 255) (h1 : a ≤ n) : ∃ (h : Hints) (p : List Prop), outKill [] (aBody Try.prog clCm h (lpBy (isLp D D2 n a b i L)) 60 51 ([.sl 0 0 n, .c (.int .i64 a), .c (.int .i64 b), srF]) (srH D L.length (rowN L))) = some (.tu [], srH D2 L.length (rowN L), p) ∧ allP p := by
  refine ⟨⟨true, bs []⟩, [(IntKind.i64.min : Int) ≤ ↑a + 1,
 (↑a + 1 : Int) ≤ IntKind.i64.max,
 ((lbody Try.prog (51 : FuncId) (1 : Nat) : Go.Code)) = (lbody Try.prog (51 : FuncId) (1 : Nat)),
 ((isO D n a b (a + (1 : Nat)) L : Go.Proofs.Ytljgmgbjfjhjmaa.St)) = (isO D n a b (a + (1 : Nat)) L)], by kernel_rfl, ?_⟩
  all_goals try simp (disch := omega) only [std]
  all_goals repeat' apply And.intro
  all_goals first | exact True.intro | omega | with_reducible rfl | with_reducible assumption | rfl

def IncR (D : List Nat) (a b : Nat) : Prop := (seg D a b).Pairwise (· < ·)
def insSpec : HSpec
  | [.sl 0 0 n, .c (.int .i64 a), .c (.int .i64 b), .fn f [.pt 1 0]], [some ⟨t, false, C⟩, some ⟨t2, true, [.fs s k l]⟩] => if (t = 3 ∧ t2 = 22) ∧ (f = 37 ∧ s = 1) then
      some (.tu [], srH (put (unnats C) a.toNat b.toNat (so (keyL (unI l)) (seg (unnats C) a.toNat b.toNat))) k l, [C = nats (unnats C), (unnats C).length = n, n ≤ 255, 0 ≤ a, a ≤ b, b ≤ n, l = rowN (unI l), k = (unI l).length, SmI (unI l), BdR (unnats C) k, IncR (unnats C) a.toNat b.toNat]) else none
  | _, _ => none

theorem ins_ok : HSpecOK Try.prog 51 insSpec := by
  refine hspec_lp mixed clCm_ok fun args hp r hp' q hs hq => ?_
  unfold insSpec at hs
  split at hs
  · rename_i n a b f t C t2 s k l
    split at hs
    · rename_i hc
      obtain ⟨⟨rfl, rfl⟩, rfl, rfl⟩ := hc
      simp only [Option.some.injEq, Prod.mk.injEq] at hs
      obtain ⟨rfl, rfl, rfl⟩ := hs
      obtain ⟨h1, h2, h3, h4, h5, h6, h7, h8, h9, h10, h11, _⟩ := hq
      obtain ⟨a, rfl⟩ : ∃ k : Nat, a = (k : Int) := ⟨a.toNat, by omega⟩
      obtain ⟨b, rfl⟩ : ∃ k : Nat, b = (k : Int) := ⟨b.toNat, by omega⟩
      simp only [Int.toNat_natCast] at h11 ⊢
      generalize unI l = L at *
      generalize unnats C = D at *
      subst h1 h7 h8
      obtain ⟨P, X, Q, rfl, e1, e2, e3, e4, e5⟩ := dec2 D (a := a) (b := b) (by omega) (by omega)
      simp only [List.length_append] at h2
      have hX : X.Pairwise (· < ·) := by rw [e4]; exact h11
      have w := is_walk P X Q L (n := n) (by omega) h3 hX h9 (fun z hz => h10 z (by simp [hz]))
      rw [put_at e1 (by omega), seg_at e1 (by omega)]
      rw [e1, show a + X.length = b by omega] at w
      obtain ⟨hh, p, e, hp⟩ := isb_all (P ++ (X ++ Q)) (P ++ (so (keyL L) X ++ Q)) n a b (max (a + 1) b) L h3 (by omega)
      exact ⟨_, _, _, _, _, lpBy_consK lpBy_nilK kp2 w, e, hp⟩
    · simp at hs
  · simp at hs

end Go.Proofs.Ytljgmgbjfjhjmaa
