/- The library's stable sort at rows of numbers: where two sorted blocks are cut, and one sign that is moved. -/
import Derived.Test.YtljgmgbjfjhjmaaSrtC
namespace Go.Proofs.Ytljgmgbjfjhjmaa
open Go.RowKit Srt
set_option linter.unusedVariables false
set_option linter.unusedSimpArgs false

theorem u64w (n : Nat) (h : n ≤ 1000) : IntKind.u64.wrap ((n : Nat) : Int) = ((n : Nat) : Int) := u64_wrap (by omega) (by omega)
theorem shr1 (n : Nat) : ((n : Nat) : Int).fdiv ((2 : Int) ^ (1 : Nat)) = ((n / 2 : Nat) : Int) := by
  rw [Int.fdiv_eq_ediv_of_nonneg _ (by decide)]
  omega

/-! Where a test of keys ends to hold: three loops of one kind. -/
def smF (D : List Nat) (n a m b : Nat) (L : List Int) (l : List (Nat × AV)) : St := ⟨frame 220 ([(0, .sl 0 0 n), (1, .c (.int .i64 a)), (2, .c (.int .i64 m)), (3, .c (.int .i64 b)), (4, srF)] ++ l), srH D L.length (rowN L)⟩
def saS (D : List Nat) (n a m b i j : Nat) (L : List Int) : St := smF D n a m b L [(10, .c (.int .i64 i)), (11, .c (.int .i64 j))]
def sbS (D : List Nat) (n a m b i j : Nat) (L : List Int) : St := smF D n a m b L [(14, .c (.int .i64 i)), (15, .c (.int .i64 j))]
def seS (D : List Nat) (n a m b mid i j : Nat) (L : List Int) : St := smF D n a m b L [(18, .c (.int .i64 mid)), (19, .c (.int .i64 (mid + m : Nat))), (22, .c (.int .i64 (mid + m - 1 : Nat))), (20, .c (.int .i64 i)), (21, .c (.int .i64 j))]

theorem saA_all (D : List Nat) (n a m b i j h x y : Nat) (z : Int) (L : List Int) (hij : i < j) (hz0 : z < 0) (hn : n ≤ 255) (hj : j ≤ n) (ha : a < n) (hh : (i + j) / 2 = h) (hx : avEq (((nats D).drop h).headD .any) (.c (.int .i64 x))) (hy : avEq (((nats D).drop a).headD .any) (.c (.int .i64 y))) (hz : L.getD x 0 - L.getD y 0 = z) (hxl : x < L.length) (hyl : y < L.length) (hsm : SmI L) (hD : (nats D).length = n) : RoundK 2 Try.prog clCm (lbody Try.prog 52 3) (saS D n a m b i j L) (.normal) (saS D n a m b (h + 1) j L) := by
  refine ⟨⟨true, (bs [(33, true), (50, true)] ++ [(36, ⟨.c (.int .i64 (i + j : Nat)), none⟩), (37, ⟨.c (.int .u64 (i + j : Nat)), none⟩), (38, ⟨.c (.int .u64 h), none⟩), (39, ⟨.c (.int .i64 h), none⟩), (44, ⟨.c (.int .i64 x), none⟩), (48, ⟨.c (.int .i64 y), none⟩), (49, ⟨.c (.int .i64 z), none⟩)])⟩, _, 60, ⟨[], [0, 1, 2, 3, 4, 10, 11], [0, 1]⟩, [decide ((↑i : Int) < ↑j) = true,
 (IntKind.i64.min : Int) ≤ ↑i + ↑j,
 (↑i + ↑j : Int) ≤ IntKind.i64.max,
 (↑i + ↑j : Int) = ↑(i + j),
 ((IntKind.u64.wrap (↑(i + j) : Int) : Int)) = ((↑(i + j) : Int)),
 (((↑(i + j) : Int).fdiv ((2 : Int) ^ (1 : Nat)) : Int)) = ((↑h : Int)),
 ((IntKind.i64.wrap (↑h : Int) : Int)) = ((↑h : Int)),
 (0 : Int) ≤ ↑h,
 (↑h : Int) < ↑n,
 (((0 : Nat) : Nat) < ((List.drop (h + (0 : Nat)) (nats D)).length)),
 avEq ((List.drop (h + (0 : Nat)) (nats D)).headD AV.any) ((AV.c ((Value.int .i64 ((↑x : Int)))))),
 (0 : Int) ≤ ↑a,
 (↑a : Int) < ↑n,
 (((0 : Nat) : Nat) < ((List.drop (a + (0 : Nat)) (nats D)).length)),
 avEq ((List.drop (a + (0 : Nat)) (nats D)).headD AV.any) ((AV.c ((Value.int .i64 ((↑y : Int)))))),
 (((1 : Nat) : Nat)) = ((1 : Nat)),
 ((rowN L : List AV)) = (rowN (unI (rowN L))),
 ((L.length : Nat)) = ((unI (rowN L)).length),
 SmI (unI (rowN L)),
 (0 : Int) ≤ ↑x,
 (↑x : Int) < ↑L.length,
 (0 : Int) ≤ ↑y,
 (↑y : Int) < ↑L.length,
 (flatV [] (AV.c (Value.int IntKind.i64 ((unI (rowN L)).getD x (0 : Int) - (unI (rowN L)).getD y (0 : Int))))) = true,
 (((unI (rowN L)).getD x (0 : Int) - (unI (rowN L)).getD y (0 : Int) : Int)) = (z),
 decide ((z : Int) < 0) = true,
 (IntKind.i64.min : Int) ≤ ↑h + 1,
 (↑h + 1 : Int) ≤ IntKind.i64.max], lpBy_nilK, by decide, by kernel_rfl, ?_⟩
  all_goals try simp (disch := omega) only [std, List.length_drop, hD, unI_rowN, u64w, shr1]
  all_goals repeat' apply And.intro
  all_goals first | exact True.intro | omega | with_reducible rfl | with_reducible assumption | exact hx | exact hy | exact hz | exact hsm | exact hh | exact hx | exact hy | exact hz | exact hsm | exact hD | rfl


theorem saB_all (D : List Nat) (n a m b i j h x y : Nat) (z : Int) (L : List Int) (hij : i < j) (hz0 : ¬ z < 0) (hn : n ≤ 255) (hj : j ≤ n) (ha : a < n) (hh : (i + j) / 2 = h) (hx : avEq (((nats D).drop h).headD .any) (.c (.int .i64 x))) (hy : avEq (((nats D).drop a).headD .any) (.c (.int .i64 y))) (hz : L.getD x 0 - L.getD y 0 = z) (hxl : x < L.length) (hyl : y < L.length) (hsm : SmI L) (hD : (nats D).length = n) : RoundK 2 Try.prog clCm (lbody Try.prog 52 3) (saS D n a m b i j L) (.normal) (saS D n a m b i h L) := by
  refine ⟨⟨true, (bs [(33, true), (50, false)] ++ [(36, ⟨.c (.int .i64 (i + j : Nat)), none⟩), (37, ⟨.c (.int .u64 (i + j : Nat)), none⟩), (38, ⟨.c (.int .u64 h), none⟩), (39, ⟨.c (.int .i64 h), none⟩), (44, ⟨.c (.int .i64 x), none⟩), (48, ⟨.c (.int .i64 y), none⟩), (49, ⟨.c (.int .i64 z), none⟩)])⟩, _, 60, ⟨[], [0, 1, 2, 3, 4, 10, 11], [0, 1]⟩, [decide ((↑i : Int) < ↑j) = true,
 (IntKind.i64.min : Int) ≤ ↑i + ↑j,
 (↑i + ↑j : Int) ≤ IntKind.i64.max,
 (↑i + ↑j : Int) = ↑(i + j),
 ((IntKind.u64.wrap (↑(i + j) : Int) : Int)) = ((↑(i + j) : Int)),
 (((↑(i + j) : Int).fdiv ((2 : Int) ^ (1 : Nat)) : Int)) = ((↑h : Int)),
 ((IntKind.i64.wrap (↑h : Int) : Int)) = ((↑h : Int)),
 (0 : Int) ≤ ↑h,
 (↑h : Int) < ↑n,
 (((0 : Nat) : Nat) < ((List.drop (h + (0 : Nat)) (nats D)).length)),
 avEq ((List.drop (h + (0 : Nat)) (nats D)).headD AV.any) ((AV.c ((Value.int .i64 ((↑x : Int)))))),
 (0 : Int) ≤ ↑a,
 (↑a : Int) < ↑n,
 (((0 : Nat) : Nat) < ((List.drop (a + (0 : Nat)) (nats D)).length)),
 avEq ((List.drop (a + (0 : Nat)) (nats D)).headD AV.any) ((AV.c ((Value.int .i64 ((↑y : Int)))))),
 (((1 : Nat) : Nat)) = ((1 : Nat)),
 ((rowN L : List AV)) = (rowN (unI (rowN L))),
 ((L.length : Nat)) = ((unI (rowN L)).length),
 SmI (unI (rowN L)),
 (0 : Int) ≤ ↑x,
 (↑x : Int) < ↑L.length,
 (0 : Int) ≤ ↑y,
 (↑y : Int) < ↑L.length,
 (flatV [] (AV.c (Value.int IntKind.i64 ((unI (rowN L)).getD x (0 : Int) - (unI (rowN L)).getD y (0 : Int))))) = true,
 (((unI (rowN L)).getD x (0 : Int) - (unI (rowN L)).getD y (0 : Int) : Int)) = (z),
 decide ((z : Int) < 0) = false], lpBy_nilK, by decide, by kernel_rfl, ?_⟩
  all_goals try simp (disch := omega) only [std, List.length_drop, hD, unI_rowN, u64w, shr1]
  all_goals repeat' apply And.intro
  all_goals first | exact True.intro | omega | with_reducible rfl | with_reducible assumption | exact hx | exact hy | exact hz | exact hsm | exact hh | exact hx | exact hy | exact hz | exact hsm | exact hD | rfl

theorem saZ_all (D : List Nat) (n a m b i j : Nat) (L : List Int) (hij : ¬ i < j) : RoundK 2 Try.prog clCm (lbody Try.prog 52 3) (saS D n a m b i j L) (.exit 0) (saS D n a m b i j L) := by
  refine ⟨⟨true, (bs [(33, false)])⟩, _, 60, ⟨[], [0, 1, 2, 3, 4, 10, 11], [0, 1]⟩, [decide ((↑i : Int) < ↑j) = false], lpBy_nilK, by decide, by kernel_rfl, ?_⟩
  all_goals try simp (disch := omega) only [std]
  all_goals repeat' apply And.intro
  all_goals first | exact True.intro | omega | with_reducible rfl | with_reducible assumption | rfl

theorem sbA_all (D : List Nat) (n a m b i j h x y : Nat) (z : Int) (L : List Int) (hij : i < j) (hz0 : ¬ z < 0) (hn : n ≤ 255) (hj : j ≤ n) (ha : m < n) (hh : (i + j) / 2 = h) (hx : avEq (((nats D).drop m).headD .any) (.c (.int .i64 x))) (hy : avEq (((nats D).drop h).headD .any) (.c (.int .i64 y))) (hz : L.getD x 0 - L.getD y 0 = z) (hxl : x < L.length) (hyl : y < L.length) (hsm : SmI L) (hD : (nats D).length = n) : RoundK 2 Try.prog clCm (lbody Try.prog 52 15) (sbS D n a m b i j L) (.normal) (sbS D n a m b (h + 1) j L) := by
  refine ⟨⟨true, (bs [(85, true), (102, false)] ++ [(88, ⟨.c (.int .i64 (i + j : Nat)), none⟩), (89, ⟨.c (.int .u64 (i + j : Nat)), none⟩), (90, ⟨.c (.int .u64 h), none⟩), (91, ⟨.c (.int .i64 h), none⟩), (96, ⟨.c (.int .i64 x), none⟩), (100, ⟨.c (.int .i64 y), none⟩), (101, ⟨.c (.int .i64 z), none⟩)])⟩, _, 60, ⟨[], [0, 1, 2, 3, 4, 14, 15], [0, 1]⟩, [decide ((↑i : Int) < ↑j) = true,
 (IntKind.i64.min : Int) ≤ ↑i + ↑j,
 (↑i + ↑j : Int) ≤ IntKind.i64.max,
 (↑i + ↑j : Int) = ↑(i + j),
 ((IntKind.u64.wrap (↑(i + j) : Int) : Int)) = ((↑(i + j) : Int)),
 (((↑(i + j) : Int).fdiv ((2 : Int) ^ (1 : Nat)) : Int)) = ((↑h : Int)),
 ((IntKind.i64.wrap (↑h : Int) : Int)) = ((↑h : Int)),
 (0 : Int) ≤ ↑m,
 (↑m : Int) < ↑n,
 (((0 : Nat) : Nat) < ((List.drop (m + (0 : Nat)) (nats D)).length)),
 avEq ((List.drop (m + (0 : Nat)) (nats D)).headD AV.any) ((AV.c ((Value.int .i64 ((↑x : Int)))))),
 (0 : Int) ≤ ↑h,
 (↑h : Int) < ↑n,
 (((0 : Nat) : Nat) < ((List.drop (h + (0 : Nat)) (nats D)).length)),
 avEq ((List.drop (h + (0 : Nat)) (nats D)).headD AV.any) ((AV.c ((Value.int .i64 ((↑y : Int)))))),
 (((1 : Nat) : Nat)) = ((1 : Nat)),
 ((rowN L : List AV)) = (rowN (unI (rowN L))),
 ((L.length : Nat)) = ((unI (rowN L)).length),
 SmI (unI (rowN L)),
 (0 : Int) ≤ ↑x,
 (↑x : Int) < ↑L.length,
 (0 : Int) ≤ ↑y,
 (↑y : Int) < ↑L.length,
 (flatV [] (AV.c (Value.int IntKind.i64 ((unI (rowN L)).getD x (0 : Int) - (unI (rowN L)).getD y (0 : Int))))) = true,
 (((unI (rowN L)).getD x (0 : Int) - (unI (rowN L)).getD y (0 : Int) : Int)) = (z),
 decide ((z : Int) < 0) = false,
 (IntKind.i64.min : Int) ≤ ↑h + 1,
 (↑h + 1 : Int) ≤ IntKind.i64.max], lpBy_nilK, by decide, by kernel_rfl, ?_⟩
  all_goals try simp (disch := omega) only [std, List.length_drop, hD, unI_rowN, u64w, shr1]
  all_goals repeat' apply And.intro
  all_goals first | exact True.intro | omega | with_reducible rfl | with_reducible assumption | exact hx | exact hy | exact hz | exact hsm | exact hh | exact hx | exact hy | exact hz | exact hsm | exact hD | rfl


theorem sbB_all (D : List Nat) (n a m b i j h x y : Nat) (z : Int) (L : List Int) (hij : i < j) (hz0 : z < 0) (hn : n ≤ 255) (hj : j ≤ n) (ha : m < n) (hh : (i + j) / 2 = h) (hx : avEq (((nats D).drop m).headD .any) (.c (.int .i64 x))) (hy : avEq (((nats D).drop h).headD .any) (.c (.int .i64 y))) (hz : L.getD x 0 - L.getD y 0 = z) (hxl : x < L.length) (hyl : y < L.length) (hsm : SmI L) (hD : (nats D).length = n) : RoundK 2 Try.prog clCm (lbody Try.prog 52 15) (sbS D n a m b i j L) (.normal) (sbS D n a m b i h L) := by
  refine ⟨⟨true, (bs [(85, true), (102, true)] ++ [(88, ⟨.c (.int .i64 (i + j : Nat)), none⟩), (89, ⟨.c (.int .u64 (i + j : Nat)), none⟩), (90, ⟨.c (.int .u64 h), none⟩), (91, ⟨.c (.int .i64 h), none⟩), (96, ⟨.c (.int .i64 x), none⟩), (100, ⟨.c (.int .i64 y), none⟩), (101, ⟨.c (.int .i64 z), none⟩)])⟩, _, 60, ⟨[], [0, 1, 2, 3, 4, 14, 15], [0, 1]⟩, [decide ((↑i : Int) < ↑j) = true,
 (IntKind.i64.min : Int) ≤ ↑i + ↑j,
 (↑i + ↑j : Int) ≤ IntKind.i64.max,
 (↑i + ↑j : Int) = ↑(i + j),
 ((IntKind.u64.wrap (↑(i + j) : Int) : Int)) = ((↑(i + j) : Int)),
 (((↑(i + j) : Int).fdiv ((2 : Int) ^ (1 : Nat)) : Int)) = ((↑h : Int)),
 ((IntKind.i64.wrap (↑h : Int) : Int)) = ((↑h : Int)),
 (0 : Int) ≤ ↑m,
 (↑m : Int) < ↑n,
 (((0 : Nat) : Nat) < ((List.drop (m + (0 : Nat)) (nats D)).length)),
 avEq ((List.drop (m + (0 : Nat)) (nats D)).headD AV.any) ((AV.c ((Value.int .i64 ((↑x : Int)))))),
 (0 : Int) ≤ ↑h,
 (↑h : Int) < ↑n,
 (((0 : Nat) : Nat) < ((List.drop (h + (0 : Nat)) (nats D)).length)),
 avEq ((List.drop (h + (0 : Nat)) (nats D)).headD AV.any) ((AV.c ((Value.int .i64 ((↑y : Int)))))),
 (((1 : Nat) : Nat)) = ((1 : Nat)),
 ((rowN L : List AV)) = (rowN (unI (rowN L))),
 ((L.length : Nat)) = ((unI (rowN L)).length),
 SmI (unI (rowN L)),
 (0 : Int) ≤ ↑x,
 (↑x : Int) < ↑L.length,
 (0 : Int) ≤ ↑y,
 (↑y : Int) < ↑L.length,
 (flatV [] (AV.c (Value.int IntKind.i64 ((unI (rowN L)).getD x (0 : Int) - (unI (rowN L)).getD y (0 : Int))))) = true,
 (((unI (rowN L)).getD x (0 : Int) - (unI (rowN L)).getD y (0 : Int) : Int)) = (z),
 decide ((z : Int) < 0) = true], lpBy_nilK, by decide, by kernel_rfl, ?_⟩
  all_goals try simp (disch := omega) only [std, List.length_drop, hD, unI_rowN, u64w, shr1]
  all_goals repeat' apply And.intro
  all_goals first | exact True.intro | omega | with_reducible rfl | with_reducible assumption | exact hx | exact hy | exact hz | exact hsm | exact hh | exact hx | exact hy | exact hz | exact hsm | exact hD | rfl

theorem sbZ_all (D : List Nat) (n a m b i j : Nat) (L : List Int) (hij : ¬ i < j) : RoundK 2 Try.prog clCm (lbody Try.prog 52 15) (sbS D n a m b i j L) (.exit 4) (sbS D n a m b i j L) := by
  refine ⟨⟨true, (bs [(85, false)])⟩, _, 60, ⟨[], [0, 1, 2, 3, 4, 14, 15], [0, 1]⟩, [decide ((↑i : Int) < ↑j) = false], lpBy_nilK, by decide, by kernel_rfl, ?_⟩
  all_goals try simp (disch := omega) only [std]
  all_goals repeat' apply And.intro
  all_goals first | exact True.intro | omega | with_reducible rfl | with_reducible assumption | rfl

theorem seA_all (D : List Nat) (n a m b mid i j h x y : Nat) (z : Int) (L : List Int) (hij : i < j) (hz0 : ¬ z < 0) (hn : n ≤ 255) (hj : j ≤ n) (hp : h + 1 ≤ mid + m) (hp2 : mid + m - 1 - h < n) (hh : (i + j) / 2 = h) (hx : avEq (((nats D).drop (mid + m - 1 - h)).headD .any) (.c (.int .i64 x))) (hy : avEq (((nats D).drop h).headD .any) (.c (.int .i64 y))) (hz : L.getD x 0 - L.getD y 0 = z) (hxl : x < L.length) (hyl : y < L.length) (hsm : SmI L) (hD : (nats D).length = n) : RoundK 2 Try.prog clCm (lbody Try.prog 52 33) (seS D n a m b mid i j L) (.normal) (seS D n a m b mid (h + 1) j L) := by
  refine ⟨⟨true, (bs [(151, true), (170, false)] ++ [(154, ⟨.c (.int .i64 (i + j : Nat)), none⟩), (155, ⟨.c (.int .u64 (i + j : Nat)), none⟩), (156, ⟨.c (.int .u64 h), none⟩), (157, ⟨.c (.int .i64 h), none⟩), (162, ⟨.c (.int .i64 (mid + m - 1 - h : Nat)), none⟩), (164, ⟨.c (.int .i64 x), none⟩), (168, ⟨.c (.int .i64 y), none⟩), (169, ⟨.c (.int .i64 z), none⟩)])⟩, _, 60, ⟨[], [0, 1, 2, 3, 4, 18, 19, 20, 21, 22], [0, 1]⟩, [decide ((↑i : Int) < ↑j) = true,
 (IntKind.i64.min : Int) ≤ ↑i + ↑j,
 (↑i + ↑j : Int) ≤ IntKind.i64.max,
 (↑i + ↑j : Int) = ↑(i + j),
 ((IntKind.u64.wrap (↑(i + j) : Int) : Int)) = ((↑(i + j) : Int)),
 (((↑(i + j) : Int).fdiv ((2 : Int) ^ (1 : Nat)) : Int)) = ((↑h : Int)),
 ((IntKind.i64.wrap (↑h : Int) : Int)) = ((↑h : Int)),
 (IntKind.i64.min : Int) ≤ ↑(mid + m - 1) - ↑h,
 (↑(mid + m - 1) - ↑h : Int) ≤ IntKind.i64.max,
 (↑(mid + m - 1) - ↑h : Int) = ↑(mid + m - 1 - h),
 (0 : Int) ≤ ↑(mid + m - 1 - h),
 (↑(mid + m - 1 - h) : Int) < ↑n,
 (((0 : Nat) : Nat) < ((List.drop (mid + m - (1 : Nat) - h + (0 : Nat)) (nats D)).length)),
 avEq ((List.drop (mid + m - (1 : Nat) - h + (0 : Nat)) (nats D)).headD AV.any) ((AV.c ((Value.int .i64 ((↑x : Int)))))),
 (0 : Int) ≤ ↑h,
 (↑h : Int) < ↑n,
 (((0 : Nat) : Nat) < ((List.drop (h + (0 : Nat)) (nats D)).length)),
 avEq ((List.drop (h + (0 : Nat)) (nats D)).headD AV.any) ((AV.c ((Value.int .i64 ((↑y : Int)))))),
 (((1 : Nat) : Nat)) = ((1 : Nat)),
 ((rowN L : List AV)) = (rowN (unI (rowN L))),
 ((L.length : Nat)) = ((unI (rowN L)).length),
 SmI (unI (rowN L)),
 (0 : Int) ≤ ↑x,
 (↑x : Int) < ↑L.length,
 (0 : Int) ≤ ↑y,
 (↑y : Int) < ↑L.length,
 (flatV [] (AV.c (Value.int IntKind.i64 ((unI (rowN L)).getD x (0 : Int) - (unI (rowN L)).getD y (0 : Int))))) = true,
 (((unI (rowN L)).getD x (0 : Int) - (unI (rowN L)).getD y (0 : Int) : Int)) = (z),
 decide ((z : Int) < 0) = false,
 (IntKind.i64.min : Int) ≤ ↑h + 1,
 (↑h + 1 : Int) ≤ IntKind.i64.max], lpBy_nilK, by decide, by kernel_rfl, ?_⟩
  all_goals try simp (disch := omega) only [std, List.length_drop, hD, unI_rowN, u64w, shr1]
  all_goals repeat' apply And.intro
  all_goals first | exact True.intro | omega | with_reducible rfl | with_reducible assumption | exact hx | exact hy | exact hz | exact hsm | exact hh | exact hx | exact hy | exact hz | exact hsm | exact hD | rfl


theorem seB_all (D : List Nat) (n a m b mid i j h x y : Nat) (z : Int) (L : List Int) (hij : i < j) (hz0 : z < 0) (hn : n ≤ 255) (hj : j ≤ n) (hp : h + 1 ≤ mid + m) (hp2 : mid + m - 1 - h < n) (hh : (i + j) / 2 = h) (hx : avEq (((nats D).drop (mid + m - 1 - h)).headD .any) (.c (.int .i64 x))) (hy : avEq (((nats D).drop h).headD .any) (.c (.int .i64 y))) (hz : L.getD x 0 - L.getD y 0 = z) (hxl : x < L.length) (hyl : y < L.length) (hsm : SmI L) (hD : (nats D).length = n) : RoundK 2 Try.prog clCm (lbody Try.prog 52 33) (seS D n a m b mid i j L) (.normal) (seS D n a m b mid i h L) := by
  refine ⟨⟨true, (bs [(151, true), (170, true)] ++ [(154, ⟨.c (.int .i64 (i + j : Nat)), none⟩), (155, ⟨.c (.int .u64 (i + j : Nat)), none⟩), (156, ⟨.c (.int .u64 h), none⟩), (157, ⟨.c (.int .i64 h), none⟩), (162, ⟨.c (.int .i64 (mid + m - 1 - h : Nat)), none⟩), (164, ⟨.c (.int .i64 x), none⟩), (168, ⟨.c (.int .i64 y), none⟩), (169, ⟨.c (.int .i64 z), none⟩)])⟩, _, 60, ⟨[], [0, 1, 2, 3, 4, 18, 19, 20, 21, 22], [0, 1]⟩, [decide ((↑i : Int) < ↑j) = true,
 (IntKind.i64.min : Int) ≤ ↑i + ↑j,
 (↑i + ↑j : Int) ≤ IntKind.i64.max,
 (↑i + ↑j : Int) = ↑(i + j),
 ((IntKind.u64.wrap (↑(i + j) : Int) : Int)) = ((↑(i + j) : Int)),
 (((↑(i + j) : Int).fdiv ((2 : Int) ^ (1 : Nat)) : Int)) = ((↑h : Int)),
 ((IntKind.i64.wrap (↑h : Int) : Int)) = ((↑h : Int)),
 (IntKind.i64.min : Int) ≤ ↑(mid + m - 1) - ↑h,
 (↑(mid + m - 1) - ↑h : Int) ≤ IntKind.i64.max,
 (↑(mid + m - 1) - ↑h : Int) = ↑(mid + m - 1 - h),
 (0 : Int) ≤ ↑(mid + m - 1 - h),
 (↑(mid + m - 1 - h) : Int) < ↑n,
 (((0 : Nat) : Nat) < ((List.drop (mid + m - (1 : Nat) - h + (0 : Nat)) (nats D)).length)),
 avEq ((List.drop (mid + m - (1 : Nat) - h + (0 : Nat)) (nats D)).headD AV.any) ((AV.c ((Value.int .i64 ((↑x : Int)))))),
 (0 : Int) ≤ ↑h,
 (↑h : Int) < ↑n,
 (((0 : Nat) : Nat) < ((List.drop (h + (0 : Nat)) (nats D)).length)),
 avEq ((List.drop (h + (0 : Nat)) (nats D)).headD AV.any) ((AV.c ((Value.int .i64 ((↑y : Int)))))),
 (((1 : Nat) : Nat)) = ((1 : Nat)),
 ((rowN L : List AV)) = (rowN (unI (rowN L))),
 ((L.length : Nat)) = ((unI (rowN L)).length),
 SmI (unI (rowN L)),
 (0 : Int) ≤ ↑x,
 (↑x : Int) < ↑L.length,
 (0 : Int) ≤ ↑y,
 (↑y : Int) < ↑L.length,
 (flatV [] (AV.c (Value.int IntKind.i64 ((unI (rowN L)).getD x (0 : Int) - (unI (rowN L)).getD y (0 : Int))))) = true,
 (((unI (rowN L)).getD x (0 : Int) - (unI (rowN L)).getD y (0 : Int) : Int)) = (z),
 decide ((z : Int) < 0) = true], lpBy_nilK, by decide, by kernel_rfl, ?_⟩
  all_goals try simp (disch := omega) only [std, List.length_drop, hD, unI_rowN, u64w, shr1]
  all_goals repeat' apply And.intro
  all_goals first | exact True.intro | omega | with_reducible rfl | with_reducible assumption | exact hx | exact hy | exact hz | exact hsm | exact hh | exact hx | exact hy | exact hz | exact hsm | exact hD | rfl

theorem seZ_all (D : List Nat) (n a m b mid i j : Nat) (L : List Int) (hij : ¬ i < j) : RoundK 2 Try.prog clCm (lbody Try.prog 52 33) (seS D n a m b mid i j L) (.exit 8) (seS D n a m b mid i j L) := by
  refine ⟨⟨true, (bs [(151, false)])⟩, _, 60, ⟨[], [0, 1, 2, 3, 4, 18, 19, 20, 21, 22], [0, 1]⟩, [decide ((↑i : Int) < ↑j) = false], lpBy_nilK, by decide, by kernel_rfl, ?_⟩
  all_goals try simp (disch := omega) only [std]
  all_goals repeat' apply And.intro
  all_goals first | exact True.intro | omega | with_reducible rfl | with_reducible assumption | rfl

/-! One sign that is moved. -/
def muS (D : List Nat) (n a m b i k : Nat) (L : List Int) : St := smF D n a m b L [(10, .c (.int .i64 i)), (13, .c (.int .i64 k))]
def mdS (D : List Nat) (n a m b i k : Nat) (L : List Int) : St := smF D n a m b L [(14, .c (.int .i64 i)), (17, .c (.int .i64 k))]

theorem muA_all (D D1 D2 : List Nat) (n a m b i k x y : Nat) (L : List Int) (hik : k + 1 < i) (hn : n ≤ 255) (hi : i ≤ n) (hx : avEq (((nats D).drop k).headD .any) (.c (.int .i64 x))) (hy : avEq (((nats D).drop (k + 1)).headD .any) (.c (.int .i64 y))) (hs1 : (nats D).take k ++ [.c (.int .i64 y)] ++ (nats D).drop (k + 1) = nats D1) (hs2 : (nats D1).take (k + 1) ++ [.c (.int .i64 x)] ++ (nats D1).drop (k + 1 + 1) = nats D2) (hD : (nats D).length = n) (hD1 : (nats D1).length = n) : RoundK 2 Try.prog cl0 (lbody Try.prog 52 9) (muS D n a m b i k L) (.normal) (muS D2 n a m b i (k + 1) L) := by
  refine ⟨⟨true, (bs [(58, true)] ++ [(65, ⟨.c (.int .i64 (k + 1 : Nat)), none⟩), (68, ⟨.c (.int .i64 (k + 1 : Nat)), none⟩), (70, ⟨.c (.int .i64 y), none⟩), (74, ⟨.c (.int .i64 x), none⟩), (100075, ⟨.any, some (nats D1)⟩), (100076, ⟨.any, some (nats D2)⟩)])⟩, _, 60, ⟨[], [0, 1, 2, 3, 4, 10, 13], [0, 1]⟩, [(IntKind.i64.min : Int) ≤ ↑i - 1,
 (↑i - 1 : Int) ≤ IntKind.i64.max,
 decide ((↑k : Int) < ↑i - 1) = true,
 (IntKind.i64.min : Int) ≤ ↑k + 1,
 (↑k + 1 : Int) ≤ IntKind.i64.max,
 (↑k + 1 : Int) = ↑(k + 1),
 (IntKind.i64.min : Int) ≤ ↑k + 1,
 (↑k + 1 : Int) ≤ IntKind.i64.max,
 (↑k + 1 : Int) = ↑(k + 1),
 (0 : Int) ≤ ↑(k + 1),
 (↑(k + 1) : Int) < ↑n,
 (((0 : Nat) : Nat) < ((List.drop (k + (1 : Nat) + (0 : Nat)) (nats D)).length)),
 avEq ((List.drop (k + (1 : Nat) + (0 : Nat)) (nats D)).headD AV.any) ((AV.c ((Value.int .i64 ((↑y : Int)))))),
 (0 : Int) ≤ ↑k,
 (↑k : Int) < ↑n,
 (((0 : Nat) : Nat) < ((List.drop (k + (0 : Nat)) (nats D)).length)),
 avEq ((List.drop (k + (0 : Nat)) (nats D)).headD AV.any) ((AV.c ((Value.int .i64 ((↑x : Int)))))),
 (0 : Int) ≤ ↑k,
 (↑k : Int) < ↑n,
 ((k + (0 : Nat) + (1 : Nat) : Nat) ≤ ((nats D).length)),
 avEq (AV.any) (AV.any),
 ((List.take (k + (0 : Nat)) (nats D) ++ [AV.c (Value.int IntKind.i64 (↑y : Int))] ++ List.drop (k + (0 : Nat) + (1 : Nat)) (nats D) : List AV)) = (nats D1),
 (0 : Int) ≤ ↑(k + 1),
 (↑(k + 1) : Int) < ↑n,
 ((k + (1 : Nat) + (0 : Nat) + (1 : Nat) : Nat) ≤ ((nats D1).length)),
 avEq (AV.any) (AV.any),
 ((List.take (k + (1 : Nat) + (0 : Nat)) (nats D1) ++ [AV.c (Value.int IntKind.i64 (↑x : Int))] ++ List.drop (k + (1 : Nat) + (0 : Nat) + (1 : Nat)) (nats D1) : List AV)) = (nats D2),
 (IntKind.i64.min : Int) ≤ ↑k + 1,
 (↑k + 1 : Int) ≤ IntKind.i64.max], lpBy_nilK, by decide, by kernel_rfl, ?_⟩
  all_goals try simp (disch := omega) only [std, List.length_drop, hD, hD1]
  all_goals repeat' apply And.intro
  all_goals first | exact True.intro | omega | with_reducible rfl | with_reducible assumption | exact hx | exact hy | exact hs1 | exact hs2 | exact hx | exact hy | exact hs1 | exact hs2 | exact hD | exact hD1 | rfl

theorem mdA_all (D D1 D2 : List Nat) (n a m b i k x y : Nat) (L : List Int) (hik : i < k) (hn : n ≤ 255) (hi : k < n) (hx : avEq (((nats D).drop k).headD .any) (.c (.int .i64 x))) (hy : avEq (((nats D).drop (k - 1)).headD .any) (.c (.int .i64 y))) (hs1 : (nats D).take k ++ [.c (.int .i64 y)] ++ (nats D).drop (k + 1) = nats D1) (hs2 : (nats D1).take (k - 1) ++ [.c (.int .i64 x)] ++ (nats D1).drop (k - 1 + 1) = nats D2) (hD : (nats D).length = n) (hD1 : (nats D1).length = n) : RoundK 2 Try.prog cl0 (lbody Try.prog 52 21) (mdS D n a m b i k L) (.normal) (mdS D2 n a m b i (k - 1) L) := by
  refine ⟨⟨true, (bs [(110, true)] ++ [(117, ⟨.c (.int .i64 (k - 1 : Nat)), none⟩), (120, ⟨.c (.int .i64 (k - 1 : Nat)), none⟩), (122, ⟨.c (.int .i64 y), none⟩), (126, ⟨.c (.int .i64 x), none⟩), (100127, ⟨.any, some (nats D1)⟩), (100128, ⟨.any, some (nats D2)⟩), (112, ⟨.c (.int .i64 (k - 1 : Nat)), none⟩)])⟩, _, 60, ⟨[], [0, 1, 2, 3, 4, 14, 17], [0, 1]⟩, [decide ((↑k : Int) > ↑i) = true,
 (IntKind.i64.min : Int) ≤ ↑k - 1,
 (↑k - 1 : Int) ≤ IntKind.i64.max,
 (↑k - 1 : Int) = ↑(k - 1),
 (IntKind.i64.min : Int) ≤ ↑k - 1,
 (↑k - 1 : Int) ≤ IntKind.i64.max,
 (↑k - 1 : Int) = ↑(k - 1),
 (0 : Int) ≤ ↑(k - 1),
 (↑(k - 1) : Int) < ↑n,
 (((0 : Nat) : Nat) < ((List.drop (k - (1 : Nat) + (0 : Nat)) (nats D)).length)),
 avEq ((List.drop (k - (1 : Nat) + (0 : Nat)) (nats D)).headD AV.any) ((AV.c ((Value.int .i64 ((↑y : Int)))))),
 (0 : Int) ≤ ↑k,
 (↑k : Int) < ↑n,
 (((0 : Nat) : Nat) < ((List.drop (k + (0 : Nat)) (nats D)).length)),
 avEq ((List.drop (k + (0 : Nat)) (nats D)).headD AV.any) ((AV.c ((Value.int .i64 ((↑x : Int)))))),
 (0 : Int) ≤ ↑k,
 (↑k : Int) < ↑n,
 ((k + (0 : Nat) + (1 : Nat) : Nat) ≤ ((nats D).length)),
 avEq (AV.any) (AV.any),
 ((List.take (k + (0 : Nat)) (nats D) ++ [AV.c (Value.int IntKind.i64 (↑y : Int))] ++ List.drop (k + (0 : Nat) + (1 : Nat)) (nats D) : List AV)) = (nats D1),
 (0 : Int) ≤ ↑(k - 1),
 (↑(k - 1) : Int) < ↑n,
 ((k - (1 : Nat) + (0 : Nat) + (1 : Nat) : Nat) ≤ ((nats D1).length)),
 avEq (AV.any) (AV.any),
 ((List.take (k - (1 : Nat) + (0 : Nat)) (nats D1) ++ [AV.c (Value.int IntKind.i64 (↑x : Int))] ++ List.drop (k - (1 : Nat) + (0 : Nat) + (1 : Nat)) (nats D1) : List AV)) = (nats D2),
 (IntKind.i64.min : Int) ≤ ↑k - 1,
 (↑k - 1 : Int) ≤ IntKind.i64.max,
 (↑k - 1 : Int) = ↑(k - 1)], lpBy_nilK, by decide, by kernel_rfl, ?_⟩
  all_goals try simp (disch := omega) only [std, List.length_drop, hD, hD1]
  all_goals repeat' apply And.intro
  all_goals first | exact True.intro | omega | with_reducible rfl | with_reducible assumption | exact hx | exact hy | exact hs1 | exact hs2 | exact hx | exact hy | exact hs1 | exact hs2 | exact hD | exact hD1 | rfl

theorem muZ_all (D : List Nat) (n a m b i k : Nat) (L : List Int) (hik : k + 1 = i) (hi : i ≤ 255) : RoundK 2 Try.prog cl0 (lbody Try.prog 52 9) (muS D n a m b i k L) (.exit 2) (muS D n a m b i k L) := by
  refine ⟨⟨true, (bs [(58, false)])⟩, _, 60, ⟨[], [0, 1, 2, 3, 4, 10, 13], [0, 1]⟩, [(IntKind.i64.min : Int) ≤ ↑i - 1,
 (↑i - 1 : Int) ≤ IntKind.i64.max,
 decide ((↑k : Int) < ↑i - 1) = false], lpBy_nilK, by decide, by kernel_rfl, ?_⟩
  all_goals try simp (disch := omega) only [std]
  all_goals repeat' apply And.intro
  all_goals first | exact True.intro | omega | with_reducible rfl | with_reducible assumption | exact hik | rfl

theorem mdZ_all (D : List Nat) (n a m b i k : Nat) (L : List Int) (hik : i = k) : RoundK 2 Try.prog cl0 (lbody Try.prog 52 21) (mdS D n a m b i k L) (.exit 6) (mdS D n a m b i k L) := by
  refine ⟨⟨true, (bs [(110, false)])⟩, _, 60, ⟨[], [0, 1, 2, 3, 4, 14, 17], [0, 1]⟩, [decide ((↑k : Int) > ↑i) = false], lpBy_nilK, by decide, by kernel_rfl, ?_⟩
  all_goals try simp (disch := omega) only [std]
  all_goals repeat' apply And.intro
  all_goals first | exact True.intro | omega | with_reducible rfl | with_reducible assumption | exact hik | rfl

end Go.Proofs.Ytljgmgbjfjhjmaa
