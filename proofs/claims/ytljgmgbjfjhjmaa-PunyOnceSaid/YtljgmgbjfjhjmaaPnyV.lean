/- Signs as letters: the program's Encode. -/
import Derived.Test.YtljgmgbjfjhjmaaPnyU
namespace Go.Proofs.Ytljgmgbjfjhjmaa
open Go.RowKit Pny Srt
set_option linter.unusedVariables false
set_option linter.unusedSimpArgs false

noncomputable def clEc : CallT := aCallH Try.prog (sgBy [(16, signISpec), (20, orSpec), (21, ahSpec)]) (hsgBy [(17, wbSpec), (24, bstSpec), (22, wrSpec), (23, tdSpec)]) 500 8
theorem clEc_ok : CallOK Try.prog clEc := aCallH_ok mixed (sgBy_cons qsg_ok (sgBy_cons order_ok (sgBy_cons ahead_ok sgBy_nil))) (hsgBy_cons wb_ok (hsgBy_cons bst_ok (hsgBy_cons write_ok (hsgBy_cons told_ok hsgBy_nil)))) 500 8

/-! The signs that stand as they are. -/
def ecS (C : List AV) (k i : Nat) (h : Heap) : St := ⟨frame 80 [(0, .fs 1 k C), (4, .pt 0 0), (16, .fs 1 k C), (17, .c (.int .i64 k)), (18, .c (.int .i64 i))], h⟩
def ecA (C : List AV) (k : Nat) (h : Heap) : St := ⟨frame 80 [(0, .fs 1 k C), (4, .pt 0 0)], h⟩
def ecN : St := ⟨frame 80 [(2, .c (str [])), (3, .c (.bool false))], []⟩

theorem ecFA_all (C : List AV) (k i : Nat) (z : Int) (s : List UInt8) (x : UInt8) (hi : i < k) (hz : avEq ((C.drop i).headD .any) (.c (.int .i64 z))) (hok : okI z = true) (hc : z < 128) (hw : IntKind.u8.wrap z = ((x.toNat : Nat) : Int)) (hs : s = []) (hC : C.length = k) (hk : k ≤ 255) (hsl : s.length ≤ 255) (hxl : x.toNat < 256) : Round Ext0 Try.prog clEc (lbody Try.prog 9 5) (ecS C k i (wrF)) (.normal) (ecS C k (i + 1) (wrWn (s.length + 1) (s ++ [x]))) := by
  refine ⟨⟨true, (bs [(19, true), (24, false), (26, true)] ++ [(21, ⟨.c (.int .i64 z), none⟩), (28, ⟨byteC x, none⟩)])⟩, _, 60, ⟨[], [0, 4, 16, 17, 18], [0, 2]⟩, [decide ((↑i : Int) < ↑k) = true,
 (0 : Int) ≤ ↑i,
 (↑i : Int) < ↑k,
 (((0 : Nat) : Nat) < ((List.drop i C).length)),
 avEq ((List.drop i C).headD AV.any) ((AV.c ((Value.int .i64 z)))),
 (!okI z) = false,
 decide ((z : Int) < 128) = true,
 ((IntKind.u8.wrap z : Int)) = ((↑x.toNat : Int)),
 (((0 : Int) : Int) ≤ ((↑x.toNat : Int))),
 (((↑x.toNat : Int) : Int) < ((256 : Int))),
 (IntKind.i64.min : Int) ≤ ↑i + 1,
 (↑i + 1 : Int) ≤ IntKind.i64.max], lpBy_nil, by decide, Eq.trans (b := some ((.normal : Exit), ⟨frame 80 [(0, (AV.fs 1 k C)), (4, (AV.pt 0 0)), (16, (AV.fs 1 k C)), (17, (AV.c ((Value.int .i64 ((↑k : Int)))))), (18, (AV.c ((Value.int .i64 ((↑i : Int) + (1 : Int))))))], [(.some ⟨37, true, [(AV.pt 0 0),
 (AV.sl 1 0 1)]⟩),
 (.some ⟨5, false, [(AV.c ((Value.int .u8 ((↑(UInt8.ofNat x.toNat).toNat : Int)))))]⟩)]⟩, _)) (by kernel_rfl) (congrArg (fun S : St => some ((.normal : Exit), S, _)) (by first | rfl | (simp (disch := omega) only [std, List.length_drop, hC, UInt8.ofNat_toNat, Int.toNat_natCast, hok, Bool.not_true, hs, List.nil_append]; first | done | rfl))), ?_⟩
  all_goals try simp (disch := omega) only [std, List.length_drop, hC, UInt8.ofNat_toNat, Int.toNat_natCast, hok, Bool.not_true, hs, List.nil_append]
  all_goals repeat' apply And.intro
  all_goals first | exact True.intro | omega | with_reducible rfl | with_reducible assumption | exact hz | exact hw | exact hz | exact hok | exact hw | exact hs | exact hC | rfl


theorem ecFS_all (C : List AV) (k i : Nat) (z : Int) (s : List UInt8) (x : UInt8) (hi : i < k) (hz : avEq ((C.drop i).headD .any) (.c (.int .i64 z))) (hok : okI z = true) (hc : ¬ z < 128) (hC : C.length = k) (hk : k ≤ 255) (hsl : s.length ≤ 255) (hxl : x.toNat < 256) : Round Ext0 Try.prog clEc (lbody Try.prog 9 5) (ecS C k i (wrF)) (.normal) (ecS C k (i + 1) wrF) := by
  refine ⟨⟨true, (bs [(19, true), (24, false), (26, false)] ++ [(21, ⟨.c (.int .i64 z), none⟩), (28, ⟨byteC x, none⟩)])⟩, _, 60, ⟨[], [0, 4, 16, 17, 18], [0]⟩, [decide ((↑i : Int) < ↑k) = true,
 (0 : Int) ≤ ↑i,
 (↑i : Int) < ↑k,
 (((0 : Nat) : Nat) < ((List.drop i C).length)),
 avEq ((List.drop i C).headD AV.any) ((AV.c ((Value.int .i64 z)))),
 (!okI z) = false,
 decide ((z : Int) < 128) = false,
 (IntKind.i64.min : Int) ≤ ↑i + 1,
 (↑i + 1 : Int) ≤ IntKind.i64.max], lpBy_nil, by decide, by kernel_rfl, ?_⟩
  all_goals try simp (disch := omega) only [std, List.length_drop, hC, UInt8.ofNat_toNat, Int.toNat_natCast, hok, Bool.not_true]
  all_goals repeat' apply And.intro
  all_goals first | exact True.intro | omega | with_reducible rfl | with_reducible assumption | exact hz | exact hw | exact hz | exact hok | exact hC | rfl


theorem ecFN_all (C : List AV) (k i : Nat) (z : Int) (s : List UInt8) (x : UInt8) (hi : i < k) (hz : avEq ((C.drop i).headD .any) (.c (.int .i64 z))) (hok : okI z = false) (hC : C.length = k) (hk : k ≤ 255) (hsl : s.length ≤ 255) (hxl : x.toNat < 256) : Round Ext0 Try.prog clEc (lbody Try.prog 9 5) (ecS C k i (wrF)) (.ret) (ecN) := by
  refine ⟨⟨true, (bs [(19, true), (24, true)] ++ [(21, ⟨.c (.int .i64 z), none⟩), (28, ⟨byteC x, none⟩)])⟩, _, 60, ⟨[], [2, 3], []⟩, [decide ((↑i : Int) < ↑k) = true,
 (0 : Int) ≤ ↑i,
 (↑i : Int) < ↑k,
 (((0 : Nat) : Nat) < ((List.drop i C).length)),
 avEq ((List.drop i C).headD AV.any) ((AV.c ((Value.int .i64 z)))),
 (!okI z) = true], lpBy_nil, by decide, by kernel_rfl, ?_⟩
  all_goals try simp (disch := omega) only [std, List.length_drop, hC, UInt8.ofNat_toNat, Int.toNat_natCast, hok, Bool.not_false]
  all_goals repeat' apply And.intro
  all_goals first | exact True.intro | omega | with_reducible rfl | with_reducible assumption | exact hz | exact hw | exact hz | exact hok | exact hC | rfl


theorem ecFZ_all (C : List AV) (k i : Nat) (z : Int) (s : List UInt8) (x : UInt8) (hi : i = k) (hC : C.length = k) (hk : k ≤ 255) (hsl : s.length ≤ 255) (hxl : x.toNat < 256) : Round Ext0 Try.prog clEc (lbody Try.prog 9 5) (ecS C k i (wrF)) (.exit 0) (ecA C k wrF) := by
  refine ⟨⟨true, (bs [(19, false)] ++ [(21, ⟨.c (.int .i64 z), none⟩), (28, ⟨byteC x, none⟩)])⟩, _, 60, ⟨[], [0, 4], [0]⟩, [decide ((↑i : Int) < ↑k) = false], lpBy_nil, by decide, by kernel_rfl, ?_⟩
  all_goals try simp (disch := omega) only [std, List.length_drop, hC, UInt8.ofNat_toNat, Int.toNat_natCast, Nat.add_zero]
  all_goals repeat' apply And.intro
  all_goals first | exact True.intro | omega | with_reducible rfl | with_reducible assumption | exact hz | exact hw | exact hi | exact hC | rfl


theorem ecWA_all (C : List AV) (k i : Nat) (z : Int) (s : List UInt8) (x : UInt8) (hi : i < k) (hz : avEq ((C.drop i).headD .any) (.c (.int .i64 z))) (hok : okI z = true) (hc : z < 128) (hw : IntKind.u8.wrap z = ((x.toNat : Nat) : Int)) (h1 : (byts s).take s.length ++ byts [x] = byts (s ++ [x])) (h2 : (byts s).length = s.length) (hC : C.length = k) (hk : k ≤ 255) (hsl : s.length ≤ 255) (hxl : x.toNat < 256) : Round Ext0 Try.prog clEc (lbody Try.prog 9 5) (ecS C k i (wrW s)) (.normal) (ecS C k (i + 1) (wrWn (s.length + 1) (s ++ [x]))) := by
  refine ⟨⟨true, (bs [(19, true), (24, false), (26, true)] ++ [(21, ⟨.c (.int .i64 z), none⟩), (28, ⟨byteC x, none⟩)])⟩, _, 60, ⟨[], [0, 4, 16, 17, 18], [0, 3]⟩, [decide ((↑i : Int) < ↑k) = true,
 (0 : Int) ≤ ↑i,
 (↑i : Int) < ↑k,
 (((0 : Nat) : Nat) < ((List.drop i C).length)),
 avEq ((List.drop i C).headD AV.any) ((AV.c ((Value.int .i64 z)))),
 (!okI z) = false,
 decide ((z : Int) < 128) = true,
 ((IntKind.u8.wrap z : Int)) = ((↑x.toNat : Int)),
 (((0 : Int) : Int) ≤ ((↑x.toNat : Int))),
 (((↑x.toNat : Int) : Int) < ((256 : Int))),
 ((s.length : Nat) ≤ ((byts s).length)),
 ((s.length + (1 : Nat) : Nat) ≤ ((140737488355328 : Nat))),
 (IntKind.i64.min : Int) ≤ ↑i + 1,
 (↑i + 1 : Int) ≤ IntKind.i64.max], lpBy_nil, by decide, Eq.trans (b := some ((.normal : Exit), ⟨frame 80 [(0, (AV.fs 1 k C)), (4, (AV.pt 0 0)), (16, (AV.fs 1 k C)), (17, (AV.c ((Value.int .i64 ((↑k : Int)))))), (18, (AV.c ((Value.int .i64 ((↑i : Int) + (1 : Int))))))], [(.some ⟨37, true, [(AV.pt 0 0),
 (AV.sl 1 0 (s.length + (1 : Nat)))]⟩),
 (.some ⟨5, false, (List.take s.length (byts s) ++ byts [UInt8.ofNat x.toNat])⟩)]⟩, _)) (by kernel_rfl) (congrArg (fun S : St => some ((.normal : Exit), S, _)) (by first | rfl | (simp (disch := omega) only [std, List.length_drop, hC, UInt8.ofNat_toNat, Int.toNat_natCast, hok, Bool.not_true, h1, h2]; first | done | rfl))), ?_⟩
  all_goals try simp (disch := omega) only [std, List.length_drop, hC, UInt8.ofNat_toNat, Int.toNat_natCast, hok, Bool.not_true, h1, h2]
  all_goals repeat' apply And.intro
  all_goals first | exact True.intro | omega | with_reducible rfl | with_reducible assumption | exact hz | exact hw | exact hz | exact hok | exact hw | exact h1 | exact h2 | exact hC | rfl


theorem ecWS_all (C : List AV) (k i : Nat) (z : Int) (s : List UInt8) (x : UInt8) (hi : i < k) (hz : avEq ((C.drop i).headD .any) (.c (.int .i64 z))) (hok : okI z = true) (hc : ¬ z < 128) (hC : C.length = k) (hk : k ≤ 255) (hsl : s.length ≤ 255) (hxl : x.toNat < 256) : Round Ext0 Try.prog clEc (lbody Try.prog 9 5) (ecS C k i (wrW s)) (.normal) (ecS C k (i + 1) (wrW s)) := by
  refine ⟨⟨true, (bs [(19, true), (24, false), (26, false)] ++ [(21, ⟨.c (.int .i64 z), none⟩), (28, ⟨byteC x, none⟩)])⟩, _, 60, ⟨[], [0, 4, 16, 17, 18], [0, 1]⟩, [decide ((↑i : Int) < ↑k) = true,
 (0 : Int) ≤ ↑i,
 (↑i : Int) < ↑k,
 (((0 : Nat) : Nat) < ((List.drop i C).length)),
 avEq ((List.drop i C).headD AV.any) ((AV.c ((Value.int .i64 z)))),
 (!okI z) = false,
 decide ((z : Int) < 128) = false,
 (IntKind.i64.min : Int) ≤ ↑i + 1,
 (↑i + 1 : Int) ≤ IntKind.i64.max], lpBy_nil, by decide, by kernel_rfl, ?_⟩
  all_goals try simp (disch := omega) only [std, List.length_drop, hC, UInt8.ofNat_toNat, Int.toNat_natCast, hok, Bool.not_true]
  all_goals repeat' apply And.intro
  all_goals first | exact True.intro | omega | with_reducible rfl | with_reducible assumption | exact hz | exact hw | exact hz | exact hok | exact hC | rfl


theorem ecWN_all (C : List AV) (k i : Nat) (z : Int) (s : List UInt8) (x : UInt8) (hi : i < k) (hz : avEq ((C.drop i).headD .any) (.c (.int .i64 z))) (hok : okI z = false) (hC : C.length = k) (hk : k ≤ 255) (hsl : s.length ≤ 255) (hxl : x.toNat < 256) : Round Ext0 Try.prog clEc (lbody Try.prog 9 5) (ecS C k i (wrW s)) (.ret) (ecN) := by
  refine ⟨⟨true, (bs [(19, true), (24, true)] ++ [(21, ⟨.c (.int .i64 z), none⟩), (28, ⟨byteC x, none⟩)])⟩, _, 60, ⟨[], [2, 3], []⟩, [decide ((↑i : Int) < ↑k) = true,
 (0 : Int) ≤ ↑i,
 (↑i : Int) < ↑k,
 (((0 : Nat) : Nat) < ((List.drop i C).length)),
 avEq ((List.drop i C).headD AV.any) ((AV.c ((Value.int .i64 z)))),
 (!okI z) = true], lpBy_nil, by decide, by kernel_rfl, ?_⟩
  all_goals try simp (disch := omega) only [std, List.length_drop, hC, UInt8.ofNat_toNat, Int.toNat_natCast, hok, Bool.not_false]
  all_goals repeat' apply And.intro
  all_goals first | exact True.intro | omega | with_reducible rfl | with_reducible assumption | exact hz | exact hw | exact hz | exact hok | exact hC | rfl


theorem ecWZ_all (C : List AV) (k i : Nat) (z : Int) (s : List UInt8) (x : UInt8) (hi : i = k) (hC : C.length = k) (hk : k ≤ 255) (hsl : s.length ≤ 255) (hxl : x.toNat < 256) : Round Ext0 Try.prog clEc (lbody Try.prog 9 5) (ecS C k i (wrW s)) (.exit 0) (ecA C k (wrW s)) := by
  refine ⟨⟨true, (bs [(19, false)] ++ [(21, ⟨.c (.int .i64 z), none⟩), (28, ⟨byteC x, none⟩)])⟩, _, 60, ⟨[], [0, 4], [0, 1]⟩, [decide ((↑i : Int) < ↑k) = false], lpBy_nil, by decide, by kernel_rfl, ?_⟩
  all_goals try simp (disch := omega) only [std, List.length_drop, hC, UInt8.ofNat_toNat, Int.toNat_natCast, Nat.add_zero]
  all_goals repeat' apply And.intro
  all_goals first | exact True.intro | omega | with_reducible rfl | with_reducible assumption | exact hz | exact hw | exact hi | exact hC | rfl

/-! The numbers. -/
def e2F (o : List Nat) (b c p : Nat) (f : Bool) : Heap := [some ⟨37, true, [.c (.pointer none), .c (.slice none 0 0)]⟩, some ⟨44, true, [.c (.int .i64 b), .c (.int .i64 c), .c (.int .i64 p), .c (.bool f)]⟩, some ⟨3, false, nats o⟩]
def e2W (o : List Nat) (s : List UInt8) (b c p : Nat) (f : Bool) : Heap := [some ⟨37, true, [.pt 0 0, .sl 3 0 s.length]⟩, some ⟨44, true, [.c (.int .i64 b), .c (.int .i64 c), .c (.int .i64 p), .c (.bool f)]⟩, some ⟨3, false, nats o⟩, some ⟨5, false, byts s⟩]
def e2S (N : List Nat) (m n q : Nat) (h : Heap) : St := ⟨frame 80 [(0, .fs 1 N.length (nats N)), (4, .pt 0 0), (7, .c (.int .i64 n)), (8, .pt 1 0), (37, .sl 2 0 m), (38, .c (.int .i64 m)), (39, .c (.int .i64 q))], h⟩
def e2R (h : Heap) : St := ⟨frame 80 [(4, .pt 0 0)], h⟩

theorem enF_all (N o : List Nat) (s w : List UInt8) (m n q i p c c0 pl x d b b2 : Nat) (f : Bool) (hq : q < m) (hm : (nats o).length = m) (hmo : m ≤ 255) (hi : ((nats o).drop q).headD .any = .c (.int .i64 i)) (hiN : i < N.length) (hNl : (nats N).length = N.length) (hN255 : N.length ≤ 255) (hx : ((nats N).drop i).headD .any = .c (.int .i64 c)) (hp : ahN N i = p) (hcc : c0 ≤ c) (hxx : ((c - c0 : Nat) : Int) * ((n + 1 : Nat) : Int) = (x : Nat)) (hd : x + p = d + pl) (hcl : c ≤ 1114111) (hnl : n ≤ 255) (hpl : p ≤ 255) (hpl2 : pl ≤ 256) (hd2 : d ≤ 2147483647) (hxl : x ≤ 300000000) (hb : b ≤ 1000) (hle : leB b 40 0 d = w) (hb2 : adp d (n + 1) (!f) = b2) (hsl : s.length ≤ 90000) : Round Ext0 Try.prog clEc (lbody Try.prog 9 17) (e2S N m n q (e2F o b c0 pl f)) (.normal) (e2S N m (n + 1) (q + 1) (e2W o w b2 c (p + 1) true)) := by
  refine ⟨⟨true, (bs [(40, true)] ++ [(42, ⟨.c (.int .i64 i), none⟩), (45, ⟨.c (.int .i64 p), none⟩), (49, ⟨.c (.int .i64 c), none⟩), (52, ⟨.c (.int .i64 (c - c0 : Nat)), none⟩), (54, ⟨.c (.int .i64 (n + 1 : Nat)), none⟩), (55, ⟨.c (.int .i64 x), none⟩), (57, ⟨.c (.int .i64 (x + p : Nat)), none⟩), (60, ⟨.c (.int .i64 d), none⟩), (73, ⟨.c (.int .i64 c), none⟩)])⟩, _, 60, ⟨[], [0, 4, 7, 8, 37, 38, 39], [0, 1, 2, 3]⟩, [decide ((↑q : Int) < ↑m) = true,
 (0 : Int) ≤ ↑q,
 (↑q : Int) < ↑m,
 (((0 : Nat) : Nat) < ((List.drop (q + (0 : Nat)) (nats o)).length)),
 avEq ((List.drop (q + (0 : Nat)) (nats o)).headD AV.any) ((AV.c ((Value.int .i64 ((↑i : Int)))))),
 (((1 : Nat) : Nat)) = ((1 : Nat)),
 ((nats N : List AV)) = (nats (unnats (nats N))),
 ((N.length : Nat)) = ((unnats (nats N)).length),
 (0 : Int) ≤ ↑i,
 (↑i : Int) < ↑N.length,
 ((N.length : Nat) ≤ ((255 : Nat))),
 (((↑(ahN (unnats (nats N)) i) : Int) : Int)) = ((↑p : Int)),
 (0 : Int) ≤ ↑i,
 (↑i : Int) < ↑N.length,
 (((0 : Nat) : Nat) < ((List.drop i (nats N)).length)),
 avEq ((List.drop i (nats N)).headD AV.any) ((AV.c ((Value.int .i64 ((↑c : Int)))))),
 (((0 : Nat) : Nat) < ((3 : Nat))),
 (IntKind.i64.min : Int) ≤ ↑c - ↑c0,
 (↑c - ↑c0 : Int) ≤ IntKind.i64.max,
 (↑c - ↑c0 : Int) = ↑(c - c0),
 (IntKind.i64.min : Int) ≤ ↑n + 1,
 (↑n + 1 : Int) ≤ IntKind.i64.max,
 (↑n + 1 : Int) = ↑(n + 1),
 (IntKind.i64.min : Int) ≤ ↑(c - c0) * ↑(n + 1),
 (↑(c - c0) * ↑(n + 1) : Int) ≤ IntKind.i64.max,
 (↑(c - c0) * ↑(n + 1) : Int) = ↑x,
 (IntKind.i64.min : Int) ≤ ↑x + ↑p,
 (↑x + ↑p : Int) ≤ IntKind.i64.max,
 (↑x + ↑p : Int) = ↑(x + p),
 (((0 : Nat) : Nat) < ((2 : Nat))),
 (IntKind.i64.min : Int) ≤ ↑(x + p) - ↑pl,
 (↑(x + p) - ↑pl : Int) ≤ IntKind.i64.max,
 (↑(x + p) - ↑pl : Int) = ↑d,
 (((0 : Nat) : Nat) < ((4 : Nat))),
 (0 : Int) ≤ ↑d,
 (↑d : Int) ≤ 2147483647,
 (0 : Int) ≤ ↑b,
 (↑b : Int) ≤ 100000,
 (IntKind.i64.min : Int) ≤ ↑n + 1,
 (↑n + 1 : Int) ≤ IntKind.i64.max,
 (0 : Int) ≤ ↑d,
 (↑d : Int) ≤ 2147483647,
 (1 : Int) ≤ ↑n + 1,
 (↑n + 1 : Int) ≤ 1000,
 (0 : Int) ≤ ↑b,
 (0 : Int) ≤ ↑c0,
 (0 : Int) ≤ ↑pl,
 (0 : Int) ≤ ↑i,
 (↑i : Int) < ↑N.length,
 (((0 : Nat) : Nat) < ((List.drop i (nats N)).length)),
 avEq ((List.drop i (nats N)).headD AV.any) ((AV.c ((Value.int .i64 ((↑c : Int)))))),
 (IntKind.i64.min : Int) ≤ ↑p + 1,
 (↑p + 1 : Int) ≤ IntKind.i64.max,
 (((2 : Nat) : Nat) ≤ ((4 : Nat))),
 (((3 : Nat) : Nat) ≤ ((4 : Nat))),
 (IntKind.i64.min : Int) ≤ ↑q + 1,
 (↑q + 1 : Int) ≤ IntKind.i64.max], lpBy_nil, by decide, Eq.trans (b := some ((.normal : Exit), ⟨frame 80 [(0, (AV.fs 1 N.length (nats N))), (4, (AV.pt 0 0)), (7, (AV.c ((Value.int .i64 ((↑n : Int) + (1 : Int)))))), (8, (AV.pt 1 0)), (37, (AV.sl 2 0 m)), (38, (AV.c ((Value.int .i64 ((↑m : Int)))))), (39, (AV.c ((Value.int .i64 ((↑q : Int) + (1 : Int))))))], [(.some ⟨37, true, [(AV.pt 0 0),
 (AV.sl 3 0 ((leB b (40 : Nat) (0 : Nat) d).length))]⟩),
 (.some ⟨44, true, [(AV.c ((Value.int .i64 ((↑(adp d ((↑n : Int) + (1 : Int)).toNat !f) : Int))))),
 (AV.c ((Value.int .i64 ((↑c : Int))))),
 (AV.c ((Value.int .i64 ((↑p : Int) + (1 : Int))))),
 (AV.c ((Value.bool true)))]⟩),
 (.some ⟨3, false, (nats o)⟩),
 (.some ⟨5, false, (byts (leB b (40 : Nat) (0 : Nat) d))⟩)]⟩, _)) (by kernel_rfl) (congrArg (fun S : St => some ((.normal : Exit), S, _)) (by first | rfl | (simp (disch := omega) only [std, Nat.add_zero, hm, hi, hx, hNl, hp, hle, hb2, unnats_nats, List.length_drop, Int.toNat_natCast, toNat_succ7]; first | done | rfl))), ?_⟩
  all_goals try simp (disch := omega) only [std, Nat.add_zero, hm, hi, hx, hNl, hp, hle, hb2, unnats_nats, List.length_drop, Int.toNat_natCast, toNat_succ7]
  all_goals repeat' apply And.intro
  all_goals first | exact True.intro | omega | with_reducible rfl | with_reducible assumption | exact hxx | rfl | exact hm | exact hi | exact hNl | exact hx | exact hp | exact hxx | exact hd | exact hle | exact hb2 | rfl


theorem enW_all (N o : List Nat) (s w : List UInt8) (m n q i p c c0 pl x d b b2 : Nat) (f : Bool) (hq : q < m) (hm : (nats o).length = m) (hmo : m ≤ 255) (hi : ((nats o).drop q).headD .any = .c (.int .i64 i)) (hiN : i < N.length) (hNl : (nats N).length = N.length) (hN255 : N.length ≤ 255) (hx : ((nats N).drop i).headD .any = .c (.int .i64 c)) (hp : ahN N i = p) (hcc : c0 ≤ c) (hxx : ((c - c0 : Nat) : Int) * ((n + 1 : Nat) : Int) = (x : Nat)) (hd : x + p = d + pl) (hcl : c ≤ 1114111) (hnl : n ≤ 255) (hpl : p ≤ 255) (hpl2 : pl ≤ 256) (hd2 : d ≤ 2147483647) (hxl : x ≤ 300000000) (hb : b ≤ 1000) (hle : leB b 40 0 d = w) (hb2 : adp d (n + 1) (!f) = b2) (hsl : s.length ≤ 90000) : Round Ext0 Try.prog clEc (lbody Try.prog 9 17) (e2S N m n q (e2W o s b c0 pl f)) (.normal) (e2S N m (n + 1) (q + 1) (e2W o (s ++ w) b2 c (p + 1) true)) := by
  refine ⟨⟨true, (bs [(40, true)] ++ [(42, ⟨.c (.int .i64 i), none⟩), (45, ⟨.c (.int .i64 p), none⟩), (49, ⟨.c (.int .i64 c), none⟩), (52, ⟨.c (.int .i64 (c - c0 : Nat)), none⟩), (54, ⟨.c (.int .i64 (n + 1 : Nat)), none⟩), (55, ⟨.c (.int .i64 x), none⟩), (57, ⟨.c (.int .i64 (x + p : Nat)), none⟩), (60, ⟨.c (.int .i64 d), none⟩), (73, ⟨.c (.int .i64 c), none⟩)])⟩, _, 60, ⟨[], [0, 4, 7, 8, 37, 38, 39], [0, 1, 2, 4]⟩, [decide ((↑q : Int) < ↑m) = true,
 (0 : Int) ≤ ↑q,
 (↑q : Int) < ↑m,
 (((0 : Nat) : Nat) < ((List.drop (q + (0 : Nat)) (nats o)).length)),
 avEq ((List.drop (q + (0 : Nat)) (nats o)).headD AV.any) ((AV.c ((Value.int .i64 ((↑i : Int)))))),
 (((1 : Nat) : Nat)) = ((1 : Nat)),
 ((nats N : List AV)) = (nats (unnats (nats N))),
 ((N.length : Nat)) = ((unnats (nats N)).length),
 (0 : Int) ≤ ↑i,
 (↑i : Int) < ↑N.length,
 ((N.length : Nat) ≤ ((255 : Nat))),
 (((↑(ahN (unnats (nats N)) i) : Int) : Int)) = ((↑p : Int)),
 (0 : Int) ≤ ↑i,
 (↑i : Int) < ↑N.length,
 (((0 : Nat) : Nat) < ((List.drop i (nats N)).length)),
 avEq ((List.drop i (nats N)).headD AV.any) ((AV.c ((Value.int .i64 ((↑c : Int)))))),
 (((0 : Nat) : Nat) < ((3 : Nat))),
 (IntKind.i64.min : Int) ≤ ↑c - ↑c0,
 (↑c - ↑c0 : Int) ≤ IntKind.i64.max,
 (↑c - ↑c0 : Int) = ↑(c - c0),
 (IntKind.i64.min : Int) ≤ ↑n + 1,
 (↑n + 1 : Int) ≤ IntKind.i64.max,
 (↑n + 1 : Int) = ↑(n + 1),
 (IntKind.i64.min : Int) ≤ ↑(c - c0) * ↑(n + 1),
 (↑(c - c0) * ↑(n + 1) : Int) ≤ IntKind.i64.max,
 (↑(c - c0) * ↑(n + 1) : Int) = ↑x,
 (IntKind.i64.min : Int) ≤ ↑x + ↑p,
 (↑x + ↑p : Int) ≤ IntKind.i64.max,
 (↑x + ↑p : Int) = ↑(x + p),
 (((0 : Nat) : Nat) < ((2 : Nat))),
 (IntKind.i64.min : Int) ≤ ↑(x + p) - ↑pl,
 (↑(x + p) - ↑pl : Int) ≤ IntKind.i64.max,
 (↑(x + p) - ↑pl : Int) = ↑d,
 (((0 : Nat) : Nat) < ((4 : Nat))),
 (0 : Int) ≤ ↑d,
 (↑d : Int) ≤ 2147483647,
 (0 : Int) ≤ ↑b,
 (↑b : Int) ≤ 100000,
 ((byts s : List AV)) = (byts (unbyts (byts s))),
 ((s.length : Nat)) = ((unbyts (byts s)).length),
 ((s.length : Nat) ≤ ((90000 : Nat))),
 (IntKind.i64.min : Int) ≤ ↑n + 1,
 (↑n + 1 : Int) ≤ IntKind.i64.max,
 (0 : Int) ≤ ↑d,
 (↑d : Int) ≤ 2147483647,
 (1 : Int) ≤ ↑n + 1,
 (↑n + 1 : Int) ≤ 1000,
 (0 : Int) ≤ ↑b,
 (0 : Int) ≤ ↑c0,
 (0 : Int) ≤ ↑pl,
 (0 : Int) ≤ ↑i,
 (↑i : Int) < ↑N.length,
 (((0 : Nat) : Nat) < ((List.drop i (nats N)).length)),
 avEq ((List.drop i (nats N)).headD AV.any) ((AV.c ((Value.int .i64 ((↑c : Int)))))),
 (IntKind.i64.min : Int) ≤ ↑p + 1,
 (↑p + 1 : Int) ≤ IntKind.i64.max,
 (((2 : Nat) : Nat) ≤ ((4 : Nat))),
 (((3 : Nat) : Nat) ≤ ((4 : Nat))),
 (IntKind.i64.min : Int) ≤ ↑q + 1,
 (↑q + 1 : Int) ≤ IntKind.i64.max], lpBy_nil, by decide, Eq.trans (b := some ((.normal : Exit), ⟨frame 80 [(0, (AV.fs 1 N.length (nats N))), (4, (AV.pt 0 0)), (7, (AV.c ((Value.int .i64 ((↑n : Int) + (1 : Int)))))), (8, (AV.pt 1 0)), (37, (AV.sl 2 0 m)), (38, (AV.c ((Value.int .i64 ((↑m : Int)))))), (39, (AV.c ((Value.int .i64 ((↑q : Int) + (1 : Int))))))], [(.some ⟨37, true, [(AV.pt 0 0),
 (AV.sl 3 0 ((unbyts (byts s) ++ leB b (40 : Nat) (0 : Nat) d).length))]⟩),
 (.some ⟨44, true, [(AV.c ((Value.int .i64 ((↑(adp d ((↑n : Int) + (1 : Int)).toNat !f) : Int))))),
 (AV.c ((Value.int .i64 ((↑c : Int))))),
 (AV.c ((Value.int .i64 ((↑p : Int) + (1 : Int))))),
 (AV.c ((Value.bool true)))]⟩),
 (.some ⟨3, false, (nats o)⟩),
 (.some ⟨5, false, (byts (unbyts (byts s) ++ leB b (40 : Nat) (0 : Nat) d))⟩)]⟩, _)) (by kernel_rfl) (congrArg (fun S : St => some ((.normal : Exit), S, _)) (by first | rfl | (simp (disch := omega) only [std, Nat.add_zero, hm, hi, hx, hNl, hp, hle, hb2, unnats_nats, List.length_drop, Int.toNat_natCast, toNat_succ7 , unbyts_byts]; first | done | rfl))), ?_⟩
  all_goals try simp (disch := omega) only [std, Nat.add_zero, hm, hi, hx, hNl, hp, hle, hb2, unnats_nats, List.length_drop, Int.toNat_natCast, toNat_succ7 , unbyts_byts]
  all_goals repeat' apply And.intro
  all_goals first | exact True.intro | omega | with_reducible rfl | with_reducible assumption | exact hxx | rfl | exact hm | exact hi | exact hNl | exact hx | exact hp | exact hxx | exact hd | exact hle | exact hb2 | rfl

theorem enZF_all (N o : List Nat) (s : List UInt8) (m n q c0 pl b : Nat) (f : Bool) (hq : q = m) : Round Ext0 Try.prog clEc (lbody Try.prog 9 17) (e2S N m n q (e2F o b c0 pl f)) (.exit 2) (e2R (wrF)) := by
  refine ⟨⟨true, (bs [(40, false)])⟩, _, 60, ⟨[], [4], [0]⟩, [decide ((↑q : Int) < ↑m) = false], lpBy_nil, by decide, by kernel_rfl, ?_⟩
  all_goals try simp (disch := omega) only [std]
  all_goals repeat' apply And.intro
  all_goals first | exact True.intro | omega | with_reducible rfl | with_reducible assumption | exact hq | rfl


theorem enZW_all (N o : List Nat) (s : List UInt8) (m n q c0 pl b : Nat) (f : Bool) (hq : q = m) : Round Ext0 Try.prog clEc (lbody Try.prog 9 17) (e2S N m n q (e2W o s b c0 pl f)) (.exit 2) (e2R (wrW s)) := by
  refine ⟨⟨true, (bs [(40, false)])⟩, _, 60, ⟨[], [4], [0, 3]⟩, [decide ((↑q : Int) < ↑m) = false], lpBy_nil, by decide, by kernel_rfl, ?_⟩
  all_goals try simp (disch := omega) only [std]
  all_goals repeat' apply And.intro
  all_goals first | exact True.intro | omega | with_reducible rfl | with_reducible assumption | exact hq | rfl

def wrG (s : List UInt8) : Heap := match s with
  | [] => wrF
  | _ :: _ => wrW s
theorem wrG_ne {s : List UInt8} (h : s ≠ []) : wrG s = wrW s := by
  cases s with
  | nil => exact absurd rfl h
  | cons c r => rfl
theorem wrG_snoc (s : List UInt8) (x : UInt8) : wrG (s ++ [x]) = wrWn (s.length + 1) (s ++ [x]) := by
  rw [wrG_ne (by simp)]
  show wrWn (s ++ [x]).length _ = _
  rw [List.length_append]; rfl

theorem ec_walk (L : List Int) (hl : L.length ≤ 255) : Tri Ext0 Try.prog (.loop (lbody Try.prog 9 5)) (ecS (rowN L) L.length 0 wrF) (if L.all okI = true then .exit 0 else .ret) (if L.all okI = true then ecA (rowN L) L.length (wrG (fsB L)) else ecN) := by
  refine loop_inv mixed clEc_ok (fun i => ecS (rowN L) L.length i (wrG (fsB (L.take i)))) (fun i => i ≤ L.length ∧ (L.take i).all okI = true) (fun i => L.length - i) (fun i hx => ?_) 0 ⟨Nat.zero_le _, rfl⟩
  obtain ⟨h1, h2⟩ := hx
  have hb := fsB_len L i
  by_cases hi : i < L.length
  · have ha : avEq (((rowN L).drop i).headD .any) (.c (.int .i64 (L.getD i 0))) := by rw [rowN_at L i hi]; exact avEq_refl _
    have htk : (L.take (i + 1)).all okI = ((L.take i).all okI && okI (L.getD i 0)) := by
      rw [take_succ_getD L i 0 hi, List.all_append]; simp
    cases hok : okI (L.getD i 0) with
    | false =>
      have : L.all okI = false := by
        rw [← List.take_append_drop (i + 1) L, List.all_append, htk, hok]; simp
      rw [this]
      by_cases hs : fsB (L.take i) = []
      · rw [hs]
        exact .inr ⟨by simp, ecFN_all (rowN L) L.length i _ [] 0 hi ha hok (rowN_length L) hl (Nat.zero_le _) (by decide)⟩
      · rw [wrG_ne hs]
        exact .inr ⟨by simp, ecWN_all (rowN L) L.length i _ _ 0 hi ha hok (rowN_length L) hl (by omega) (by decide)⟩
    | true =>
      have h0 := okI_ge hok
      refine .inl ⟨i + 1, ⟨hi, by rw [htk, h2, hok]; rfl⟩, by omega, ?_⟩
      rw [fsB_snoc L i hi h0]
      by_cases hz : L.getD i 0 < 128
      · have hw : IntKind.u8.wrap (L.getD i 0) = (((UInt8.ofNat (L.getD i 0).toNat).toNat : Nat) : Int) := by
          rw [UInt8.toNat_ofNat', u8_wrap h0 (by omega)]
          omega
        rw [if_pos hz, wrG_snoc]
        by_cases hs : fsB (L.take i) = []
        · have := ecFA_all (rowN L) L.length i _ (fsB (L.take i)) _ hi ha hok hz hw hs (rowN_length L) hl (by omega) (UInt8.toNat_lt _)
          rw [show wrG (fsB (L.take i)) = wrF by rw [hs]; rfl]
          exact this
        · rw [wrG_ne hs]
          exact ecWA_all (rowN L) L.length i _ _ _ hi ha hok hz hw (byts_more _ _) (byts_length _) (rowN_length L) hl (by omega) (UInt8.toNat_lt _)
      · rw [if_neg hz]
        by_cases hs : fsB (L.take i) = []
        · rw [hs]
          exact ecFS_all (rowN L) L.length i _ [] 0 hi ha hok hz (rowN_length L) hl (Nat.zero_le _) (by decide)
        · rw [wrG_ne hs]
          exact ecWS_all (rowN L) L.length i _ _ 0 hi ha hok hz (rowN_length L) hl (by omega) (by decide)
  · have he : i = L.length := by omega
    subst he
    rw [List.take_length] at *
    rw [h2]
    by_cases hs : fsB L = []
    · rw [hs]
      exact .inr ⟨by simp, ecFZ_all (rowN L) L.length L.length 0 [] 0 rfl (rowN_length L) hl (Nat.zero_le _) (by decide)⟩
    · rw [wrG_ne hs]
      exact .inr ⟨by simp, ecWZ_all (rowN L) L.length L.length 0 _ 0 rfl (rowN_length L) hl (by omega) (by decide)⟩

def e2G (o : List Nat) (s : List UInt8) (b c p : Nat) (f : Bool) : Heap := match s with
  | [] => e2F o b c p f
  | _ :: _ => e2W o s b c p f
theorem e2G_ne {o : List Nat} {s : List UInt8} (h : s ≠ []) (b c p : Nat) (f : Bool) : e2G o s b c p f = e2W o s b c p f := by
  cases s with
  | nil => exact absurd rfl h
  | cons c r => rfl

theorem en_walk (N o : List Nat) (hl : N.length ≤ 255) (hok : ∀ z ∈ N, okC z = true) (hol : o.length ≤ 255) (X0 : Stt) (s0 fin : List UInt8) (hg : Good N X0 o) (hs0 : s0.length ≤ 300) (hc0 : X0.c ≤ 1114111) (hp0 : X0.p ≤ 256) (hn0 : X0.out.length ≤ 255) (hf : s0 ++ wrT (puD N X0 o) X0.out.length 72 true = fin) :
    Tri Ext0 Try.prog (.loop (lbody Try.prog 9 17)) (e2S N o.length X0.out.length 0 (e2G o s0 72 X0.c X0.p false)) (.exit 2) (e2R (wrG fin)) := by
  refine loop_inv mixed clEc_ok (fun x : Stt × Nat × Bool × List UInt8 × Nat => e2S N o.length x.1.out.length x.2.2.2.2 (e2G o x.2.2.2.1 x.2.1 x.1.c x.1.p x.2.2.1)) (fun x => x.2.2.2.2 ≤ o.length ∧ Good N x.1 (o.drop x.2.2.2.2) ∧ x.2.2.2.1.length ≤ 300 + 40 * x.2.2.2.2 ∧ x.1.c ≤ 1114111 ∧ x.1.p ≤ 256 ∧ x.1.out.length ≤ 255 ∧ x.2.1 ≤ 1000 ∧ x.2.2.2.1 ++ wrT (puD N x.1 (o.drop x.2.2.2.2)) x.1.out.length x.2.1 (!x.2.2.1) = fin) (fun x => o.length - x.2.2.2.2) (fun x hx => ?_) (X0, 72, false, s0, 0) ⟨Nat.zero_le _, hg, hs0, hc0, hp0, hn0, by simp, hf⟩
  clear hg hs0 hc0 hp0 hn0 hf
  obtain ⟨X, b, f, s, q⟩ := x
  obtain ⟨h1, h2, h3, h4, h5, h6, h7, h8⟩ := hx
  simp only at h1 h2 h3 h4 h5 h6 h7 h8 ⊢
  by_cases hq : q < o.length
  · rw [show o.drop q = o.getD q 0 :: o.drop (q + 1) from drop_step hq] at h2 h8
    generalize hi : o.getD q 0 = i at *
    obtain ⟨⟨g1, g2, g3, g4, g5⟩, g6⟩ := h2
    obtain ⟨s1, s2, s3, s4, s5⟩ := stD_dN g2 g3 g4
    have hd := (okD_le g5).1
    have hn := (okD_le g5).2.2.1
    have hdd : (N.getD i 0 - X.c) * (X.out.length + 1) + ahN N i = dN N X i + X.p := by
      unfold dN
      omega
    have hc : N.getD i 0 ≤ 1114111 := by
      have e : N[i]'g1 = N.getD i 0 := by simp [List.getD, g1]
      rw [← e]
      exact okC_le (hok _ (List.getElem_mem _))
    have hio : ((nats o).drop q).headD .any = .c (.int .i64 (i : Nat)) := by rw [nats_at o q hq, hi]
    have hle := leB_le b 40 0 (dN N X i)
    have had := adp_any (dN N X i) (X.out.length + 1) (!f)
    have hne : leB b 40 0 (dN N X i) ≠ [] := leB_ne b 39 0 (dN N X i)
    have h8 : s ++ (leB b 40 0 (dN N X i) ++ wrT (puD N (stD X (dN N X i)) (o.drop (q + 1))) (X.out.length + 1) (adp (dN N X i) (X.out.length + 1) (!f)) false) = fin := h8
    have hlen := stD_len X (dN N X i)
    refine .inl ⟨(stD X (dN N X i), adp (dN N X i) (X.out.length + 1) (!f), true, s ++ leB b 40 0 (dN N X i), q + 1), ⟨by simp only; omega, g6, by simp only [List.length_append]; omega, by simp only; omega, by simp only; omega, by simp only; omega, had, by simp only; rw [hlen, List.append_assoc]; exact h8⟩, by simp only; omega, ?_⟩
    simp only
    have hne2 : s ++ leB b 40 0 (dN N X i) ≠ [] := fun e => hne (List.append_eq_nil_iff.1 e).2
    rw [hlen, s3, s4, e2G_ne hne2]
    by_cases hs : s = []
    · subst hs
      rw [List.nil_append]
      exact enF_all N o [] _ o.length X.out.length q i (ahN N i) (N.getD i 0) X.c X.p _ (dN N X i) b _ f hq (nats_length o) hol hio g1 (nats_length N) hl (nats_at N i g1) rfl g2 (Int.natCast_mul _ _).symm hdd hc h6 (by omega) h5 (by omega) (by omega) h7 rfl rfl (by simp)
    · rw [e2G_ne hs]
      exact enW_all N o s _ o.length X.out.length q i (ahN N i) (N.getD i 0) X.c X.p _ (dN N X i) b _ f hq (nats_length o) hol hio g1 (nats_length N) hl (nats_at N i g1) rfl g2 (Int.natCast_mul _ _).symm hdd hc h6 (by omega) h5 (by omega) (by omega) h7 rfl rfl (by omega)
  · have hqe : q = o.length := by omega
    rw [List.drop_of_length_le (by omega)] at h8
    have h8 : s ++ [] = fin := h8
    rw [List.append_nil] at h8
    subst h8
    by_cases hs : s = []
    · subst hs
      exact .inr ⟨by simp, enZF_all N o [] o.length X.out.length q X.c X.p b f hqe⟩
    · rw [e2G_ne hs, wrG_ne hs]
      exact .inr ⟨by simp, enZW_all N o s o.length X.out.length q X.c X.p b f hqe⟩

end Go.Proofs.Ytljgmgbjfjhjmaa
