/- Signs as letters: the program's Decode. -/
import Derived.Test.YtljgmgbjfjhjmaaPnyS
import Derived.Test.YtljgmgbjfjhjmaaInsE
namespace Go.Proofs.Ytljgmgbjfjhjmaa
open Go.RowKit Pny Srt
set_option linter.unusedVariables false
set_option linter.unusedSimpArgs false

noncomputable def clDd : CallT := aCallH Try.prog (sgBy [(16, signISpec), (30, qrSpec)]) (hsgBy [(29, frSpec), (31, insISpec), (23, tdSpec)]) 500 8
theorem clDd_ok : CallOK Try.prog clDd := aCallH_ok mixed (sgBy_cons qsg_ok (sgBy_cons qrd_ok sgBy_nil)) (hsgBy_cons first_ok (hsgBy_cons insI_ok (hsgBy_cons told_ok hsgBy_nil))) 500 8

def ddH (out : List Nat) (b c p : Nat) (f : Bool) : Heap := [some ⟨3, false, nats out⟩, some ⟨44, true, [.c (.int .i64 b), .c (.int .i64 c), .c (.int .i64 p), .c (.bool f)]⟩]
def ddS (l : List UInt8) (out : List Nat) (n p c b : Nat) (f : Bool) : St := ⟨frame 76 [(0, .c (str l)), (4, .sl 0 0 n), (6, .pt 1 0)], ddH out b c p f⟩
def ddE (out : List Nat) (n : Nat) : St := ⟨frame 76 [(4, .sl 0 0 n)], [some ⟨3, false, nats out⟩]⟩
def ddN : St := ⟨frame 76 [(2, .sl 0 0 0), (3, .c (.bool false))], [some ⟨3, false, []⟩]⟩

theorem ddA_all (l : List UInt8) (out o2 : List Nat) (n p c b : Nat) (f : Bool) (d k c2 p2 q b2 : Nat) (hi : (!(l == ([] : List UInt8))) = true) (hl : l.length ≤ 100000) (hn : out.length = n) (hnn : (nats out).length = n) (hp : p ≤ 100000) (hc : c ≤ 1114112) (hb : b ≤ 100000) (hd : (rdV (rdB b 0 1 0 l)).1 = d) (hk2 : (rdV (rdB b 0 1 0 l)).2 = k) (ho : (rdB b 0 1 0 l).isSome = false) (hd2 : d ≤ 2147483647) (hkl : k ≤ l.length) : Round Ext0 Try.prog clDd (lbody Try.prog 11 5) (ddS l out n p c b f) (.ret) (ddN) := by
  refine ⟨⟨true, (bs [(21, true)] ++ [(27, ⟨.c (.int .i64 d), none⟩), (28, ⟨.c (.int .i64 k), none⟩), (29, ⟨.c (.bool false), none⟩), (43, ⟨.c (.int .i64 (p + d : Nat)), none⟩), (49, ⟨.c (.int .i64 (n + 1 : Nat)), none⟩), (60, ⟨.c (.int .i64 (n + 1 : Nat)), none⟩), (50, ⟨.c (.int .i64 q), some []⟩), (51, ⟨.c (.int .i64 c2), none⟩), (61, ⟨.c (.int .i64 p2), some []⟩)])⟩, _, 60, ⟨[(2, 3)], [2, 3], [2]⟩, [(!l == []) = true,
 (((0 : Nat) : Nat) < ((4 : Nat))),
 (0 : Int) ≤ ↑b,
 (↑b : Int) ≤ 100000,
 ((l.length : Nat) ≤ ((100000 : Nat))),
 (((↑(rdV (rdB (↑b : Int).toNat (0 : Nat) (1 : Nat) (0 : Nat) (sb { data := { toList := l } }))).fst : Int) : Int)) = ((↑d : Int)),
 (((↑(rdV (rdB (↑b : Int).toNat (0 : Nat) (1 : Nat) (0 : Nat) (sb { data := { toList := l } }))).snd : Int) : Int)) = ((↑k : Int)),
 ((rdB (↑b : Int).toNat (0 : Nat) (1 : Nat) (0 : Nat) (sb { data := { toList := l } })).isSome) = false], lpBy_nil, by decide, Eq.trans (b := some ((.ret : Exit), ⟨frame 76 [(2, (AV.sl 0 0 0)), (3, (AV.c ((Value.bool false))))], [(.some ⟨3, false, []⟩)]⟩, _)) (by kernel_rfl) (congrArg (fun S : St => some ((.ret : Exit), S, _)) (by first | rfl | (simp (disch := omega) only [std, hd, hk2, ho, hnn, Int.toNat_natCast]; first | done | rfl))), ?_⟩
  all_goals try simp (disch := omega) only [std, hd, hk2, ho, hnn, Int.toNat_natCast]
  all_goals repeat' apply And.intro
  all_goals first | exact True.intro | omega | with_reducible rfl | with_reducible assumption | rfl | exact hi | exact hr | exact hi | exact hn | exact hnn | exact hd | exact hk2 | exact ho | rfl


theorem ddL_all (l : List UInt8) (out o2 : List Nat) (n p c b : Nat) (f : Bool) (d k c2 p2 q b2 : Nat) (hi : (!(l == ([] : List UInt8))) = true) (h255 : n = 255) (hl : l.length ≤ 100000) (hn : out.length = n) (hnn : (nats out).length = n) (hp : p ≤ 100000) (hc : c ≤ 1114112) (hb : b ≤ 100000) (hd : (rdV (rdB b 0 1 0 l)).1 = d) (hk2 : (rdV (rdB b 0 1 0 l)).2 = k) (ho : (rdB b 0 1 0 l).isSome = true) (hd2 : d ≤ 2147483647) (hkl : k ≤ l.length) : Round Ext0 Try.prog clDd (lbody Try.prog 11 5) (ddS l out n p c b f) (.ret) (ddN) := by
  refine ⟨⟨true, (bs [(21, true), (35, true)] ++ [(27, ⟨.c (.int .i64 d), none⟩), (28, ⟨.c (.int .i64 k), none⟩), (29, ⟨.c (.bool true), none⟩), (43, ⟨.c (.int .i64 (p + d : Nat)), none⟩), (49, ⟨.c (.int .i64 (n + 1 : Nat)), none⟩), (60, ⟨.c (.int .i64 (n + 1 : Nat)), none⟩), (50, ⟨.c (.int .i64 q), some []⟩), (51, ⟨.c (.int .i64 c2), none⟩), (61, ⟨.c (.int .i64 p2), some []⟩)])⟩, _, 60, ⟨[(2, 3)], [2, 3], [2]⟩, [(!l == []) = true,
 (((0 : Nat) : Nat) < ((4 : Nat))),
 (0 : Int) ≤ ↑b,
 (↑b : Int) ≤ 100000,
 ((l.length : Nat) ≤ ((100000 : Nat))),
 (((↑(rdV (rdB (↑b : Int).toNat (0 : Nat) (1 : Nat) (0 : Nat) (sb { data := { toList := l } }))).fst : Int) : Int)) = ((↑d : Int)),
 (((↑(rdV (rdB (↑b : Int).toNat (0 : Nat) (1 : Nat) (0 : Nat) (sb { data := { toList := l } }))).snd : Int) : Int)) = ((↑k : Int)),
 ((rdB (↑b : Int).toNat (0 : Nat) (1 : Nat) (0 : Nat) (sb { data := { toList := l } })).isSome) = true,
 ((↑n : Int) == (255 : Int)) = true], lpBy_nil, by decide, Eq.trans (b := some ((.ret : Exit), ⟨frame 76 [(2, (AV.sl 0 0 0)), (3, (AV.c ((Value.bool false))))], [(.some ⟨3, false, []⟩)]⟩, _)) (by kernel_rfl) (congrArg (fun S : St => some ((.ret : Exit), S, _)) (by first | rfl | (simp (disch := omega) only [std, hd, hk2, ho, hnn, Int.toNat_natCast]; first | done | rfl))), ?_⟩
  all_goals try simp (disch := omega) only [std, hd, hk2, ho, hnn, Int.toNat_natCast]
  all_goals repeat' apply And.intro
  all_goals first | exact True.intro | omega | with_reducible rfl | with_reducible assumption | rfl | exact hi | exact hr | exact hi | exact h255 | exact hn | exact hnn | exact hd | exact hk2 | exact ho | rfl


theorem ddB_all (l : List UInt8) (out o2 : List Nat) (n p c b : Nat) (f : Bool) (d k c2 p2 q b2 : Nat) (hi : (!(l == ([] : List UInt8))) = true) (h255 : n < 255) (hq : IntKind.i64.wrap (((p + d : Nat) : Int).tdiv ((n + 1 : Nat) : Int)) = (q : Nat)) (hq2 : q ≤ 2147583647) (hcq : c + q = c2) (hr : (((p + d : Nat) : Int).tmod ((n + 1 : Nat) : Int)) = (p2 : Nat)) (hok : okI (c2 : Nat) = false) (hl : l.length ≤ 100000) (hn : out.length = n) (hnn : (nats out).length = n) (hp : p ≤ 100000) (hc : c ≤ 1114112) (hb : b ≤ 100000) (hd : (rdV (rdB b 0 1 0 l)).1 = d) (hk2 : (rdV (rdB b 0 1 0 l)).2 = k) (ho : (rdB b 0 1 0 l).isSome = true) (hd2 : d ≤ 2147483647) (hkl : k ≤ l.length) : Round Ext0 Try.prog clDd (lbody Try.prog 11 5) (ddS l out n p c b f) (.ret) (ddN) := by
  refine ⟨⟨true, (bs [(21, true), (35, false), (56, true)] ++ [(27, ⟨.c (.int .i64 d), none⟩), (28, ⟨.c (.int .i64 k), none⟩), (29, ⟨.c (.bool true), none⟩), (43, ⟨.c (.int .i64 (p + d : Nat)), none⟩), (49, ⟨.c (.int .i64 (n + 1 : Nat)), none⟩), (60, ⟨.c (.int .i64 (n + 1 : Nat)), none⟩), (50, ⟨.c (.int .i64 q), some []⟩), (51, ⟨.c (.int .i64 c2), none⟩), (61, ⟨.c (.int .i64 p2), some []⟩)])⟩, _, 60, ⟨[(2, 3)], [2, 3], [2]⟩, [(!l == []) = true,
 (((0 : Nat) : Nat) < ((4 : Nat))),
 (0 : Int) ≤ ↑b,
 (↑b : Int) ≤ 100000,
 ((l.length : Nat) ≤ ((100000 : Nat))),
 (((↑(rdV (rdB (↑b : Int).toNat (0 : Nat) (1 : Nat) (0 : Nat) (sb { data := { toList := l } }))).fst : Int) : Int)) = ((↑d : Int)),
 (((↑(rdV (rdB (↑b : Int).toNat (0 : Nat) (1 : Nat) (0 : Nat) (sb { data := { toList := l } }))).snd : Int) : Int)) = ((↑k : Int)),
 ((rdB (↑b : Int).toNat (0 : Nat) (1 : Nat) (0 : Nat) (sb { data := { toList := l } })).isSome) = true,
 ((↑n : Int) == (255 : Int)) = false,
 (0 : Int) ≤ ↑k,
 (↑k : Int) ≤ ↑l.length,
 (↑l.length : Int) ≤ ↑l.length,
 (((0 : Nat) : Nat) < ((2 : Nat))),
 (IntKind.i64.min : Int) ≤ ↑p + ↑d,
 (↑p + ↑d : Int) ≤ IntKind.i64.max,
 (↑p + ↑d : Int) = ↑(p + d),
 (((0 : Nat) : Nat) < ((3 : Nat))),
 (IntKind.i64.min : Int) ≤ ↑n + 1,
 (↑n + 1 : Int) ≤ IntKind.i64.max,
 (↑n + 1 : Int) = ↑(n + 1),
 (↑(n + (1 : Nat)) : Int) ≠ (0 : Int),
 ((IntKind.i64.wrap ((↑(p + d) : Int).tdiv (↑(n + (1 : Nat)) : Int)) : Int)) = ((↑q : Int)),
 ((([ck ((↑(n + (1 : Nat)) : Int) ≠ (0 : Int))], AV.c (Value.int IntKind.i64 (IntKind.i64.wrap ((↑(p + d) : Int).tdiv (↑(n + (1 : Nat)) : Int)))), Cmd.nop).snd.snd.cells : List AV)) = ([]),
 (IntKind.i64.min : Int) ≤ ↑c + ↑q,
 (↑c + ↑q : Int) ≤ IntKind.i64.max,
 (↑c + ↑q : Int) = ↑c2,
 (((2 : Nat) : Nat) ≤ ((4 : Nat))),
 (((0 : Nat) : Nat) < ((3 : Nat))),
 (!okI (↑c2 : Int)) = true], lpBy_nil, by decide, Eq.trans (b := some ((.ret : Exit), ⟨frame 76 [(2, (AV.sl 0 0 0)), (3, (AV.c ((Value.bool false))))], [(.some ⟨3, false, []⟩)]⟩, _)) (by kernel_rfl) (congrArg (fun S : St => some ((.ret : Exit), S, _)) (by first | rfl | (simp (disch := omega) only [std, hd, hk2, ho, hnn, Int.toNat_natCast , hok, Bool.not_false]; first | done | rfl))), ?_⟩
  all_goals try simp (disch := omega) only [std, hd, hk2, ho, hnn, Int.toNat_natCast , hok, Bool.not_false]
  all_goals repeat' apply And.intro
  all_goals first | exact True.intro | omega | with_reducible rfl | with_reducible assumption | exact hq | exact hi | exact hr | exact hi | exact hq | exact hcq | exact hr | exact hok | exact hn | exact hnn | exact hd | exact hk2 | exact ho | rfl


theorem ddC_all (l : List UInt8) (out o2 : List Nat) (n p c b : Nat) (f : Bool) (d k c2 p2 q b2 : Nat) (hi : (!(l == ([] : List UInt8))) = true) (h255 : n < 255) (hq : IntKind.i64.wrap (((p + d : Nat) : Int).tdiv ((n + 1 : Nat) : Int)) = (q : Nat)) (hq2 : q ≤ 2147583647) (hcq : c + q = c2) (hr : (((p + d : Nat) : Int).tmod ((n + 1 : Nat) : Int)) = (p2 : Nat)) (hok : okI (c2 : Nat) = true) (hpl : p2 ≤ n) (h1 : insPut (nats out) p2 (.c (.int .i64 c2)) = nats o2) (hb2 : adp d (n + 1) (!f) = b2) (hl : l.length ≤ 100000) (hn : out.length = n) (hnn : (nats out).length = n) (hp : p ≤ 100000) (hc : c ≤ 1114112) (hb : b ≤ 100000) (hd : (rdV (rdB b 0 1 0 l)).1 = d) (hk2 : (rdV (rdB b 0 1 0 l)).2 = k) (ho : (rdB b 0 1 0 l).isSome = true) (hd2 : d ≤ 2147483647) (hkl : k ≤ l.length) : Round Ext0 Try.prog clDd (lbody Try.prog 11 5) (ddS l out n p c b f) (.normal) (ddS (l.drop k) o2 (n + 1) (p2 + 1) c2 b2 true) := by
  refine ⟨⟨true, (bs [(21, true), (35, false), (56, false)] ++ [(27, ⟨.c (.int .i64 d), none⟩), (28, ⟨.c (.int .i64 k), none⟩), (29, ⟨.c (.bool true), none⟩), (43, ⟨.c (.int .i64 (p + d : Nat)), none⟩), (49, ⟨.c (.int .i64 (n + 1 : Nat)), none⟩), (60, ⟨.c (.int .i64 (n + 1 : Nat)), none⟩), (50, ⟨.c (.int .i64 q), some []⟩), (51, ⟨.c (.int .i64 c2), none⟩), (61, ⟨.c (.int .i64 p2), some []⟩)])⟩, _, 60, ⟨[], [0, 4, 6], [3, 1]⟩, [(!l == []) = true,
 (((0 : Nat) : Nat) < ((4 : Nat))),
 (0 : Int) ≤ ↑b,
 (↑b : Int) ≤ 100000,
 ((l.length : Nat) ≤ ((100000 : Nat))),
 (((↑(rdV (rdB (↑b : Int).toNat (0 : Nat) (1 : Nat) (0 : Nat) (sb { data := { toList := l } }))).fst : Int) : Int)) = ((↑d : Int)),
 (((↑(rdV (rdB (↑b : Int).toNat (0 : Nat) (1 : Nat) (0 : Nat) (sb { data := { toList := l } }))).snd : Int) : Int)) = ((↑k : Int)),
 ((rdB (↑b : Int).toNat (0 : Nat) (1 : Nat) (0 : Nat) (sb { data := { toList := l } })).isSome) = true,
 ((↑n : Int) == (255 : Int)) = false,
 (0 : Int) ≤ ↑k,
 (↑k : Int) ≤ ↑l.length,
 (↑l.length : Int) ≤ ↑l.length,
 (((0 : Nat) : Nat) < ((2 : Nat))),
 (IntKind.i64.min : Int) ≤ ↑p + ↑d,
 (↑p + ↑d : Int) ≤ IntKind.i64.max,
 (↑p + ↑d : Int) = ↑(p + d),
 (((0 : Nat) : Nat) < ((3 : Nat))),
 (IntKind.i64.min : Int) ≤ ↑n + 1,
 (↑n + 1 : Int) ≤ IntKind.i64.max,
 (↑n + 1 : Int) = ↑(n + 1),
 (↑(n + (1 : Nat)) : Int) ≠ (0 : Int),
 ((IntKind.i64.wrap ((↑(p + d) : Int).tdiv (↑(n + (1 : Nat)) : Int)) : Int)) = ((↑q : Int)),
 ((([ck ((↑(n + (1 : Nat)) : Int) ≠ (0 : Int))], AV.c (Value.int IntKind.i64 (IntKind.i64.wrap ((↑(p + d) : Int).tdiv (↑(n + (1 : Nat)) : Int)))), Cmd.nop).snd.snd.cells : List AV)) = ([]),
 (IntKind.i64.min : Int) ≤ ↑c + ↑q,
 (↑c + ↑q : Int) ≤ IntKind.i64.max,
 (↑c + ↑q : Int) = ↑c2,
 (((2 : Nat) : Nat) ≤ ((4 : Nat))),
 (((0 : Nat) : Nat) < ((3 : Nat))),
 (!okI (↑c2 : Int)) = false,
 (IntKind.i64.min : Int) ≤ ↑n + 1,
 (↑n + 1 : Int) ≤ IntKind.i64.max,
 (↑n + 1 : Int) = ↑(n + 1),
 (↑(n + (1 : Nat)) : Int) ≠ (0 : Int),
 (((↑(p + d) : Int).tmod (↑(n + (1 : Nat)) : Int) : Int)) = ((↑p2 : Int)),
 ((([ck ((↑(n + (1 : Nat)) : Int) ≠ (0 : Int))], AV.c (Value.int IntKind.i64 ((↑(p + d) : Int).tmod (↑(n + (1 : Nat)) : Int))), Cmd.nop).snd.snd.cells : List AV)) = ([]),
 (((0 : Nat) : Nat) < ((3 : Nat))),
 (0 : Int) ≤ ↑p2,
 (↑p2 : Int) ≤ ↑n,
 ((n : Nat) ≤ ((255 : Nat))),
 (((nats out).length : Nat)) = (n),
 (0 : Int) ≤ ↑d,
 (↑d : Int) ≤ 2147483647,
 (1 : Int) ≤ ↑(n + 1),
 (↑(n + 1) : Int) ≤ 1000,
 (0 : Int) ≤ ↑b,
 (0 : Int) ≤ ↑c2,
 (0 : Int) ≤ ↑p,
 (IntKind.i64.min : Int) ≤ ↑p2 + 1,
 (↑p2 + 1 : Int) ≤ IntKind.i64.max,
 (((3 : Nat) : Nat) ≤ ((4 : Nat)))], lpBy_nil, by decide, Eq.trans (b := some ((.normal : Exit), ⟨frame 76 [(0, (AV.c ((str (List.drop k (List.take l.length l)))))), (4, (AV.sl 0 0 (n + (1 : Nat)))), (6, (AV.pt 1 0))], [(.some ⟨3, false, (insPut (nats out) p2 (AV.c (Value.int IntKind.i64 (↑c2 : Int))))⟩),
 (.some ⟨44, true, [(AV.c ((Value.int .i64 ((↑(adp d (n + (1 : Nat)) !f) : Int))))),
 (AV.c ((Value.int .i64 ((↑c2 : Int))))),
 (AV.c ((Value.int .i64 ((↑p2 : Int) + (1 : Int))))),
 (AV.c ((Value.bool true)))]⟩)]⟩, _)) (by kernel_rfl) (congrArg (fun S : St => some ((.normal : Exit), S, _)) (by first | rfl | (simp (disch := omega) only [std, hd, hk2, ho, hnn, Int.toNat_natCast , hok, Bool.not_true, h1, hb2, toNat_succ7]; first | done | rfl))), ?_⟩
  all_goals try simp (disch := omega) only [std, hd, hk2, ho, hnn, Int.toNat_natCast , hok, Bool.not_true, h1, hb2, toNat_succ7]
  all_goals repeat' apply And.intro
  all_goals first | exact True.intro | omega | with_reducible rfl | with_reducible assumption | exact hq | exact hi | exact hr | exact hi | exact hq | exact hcq | exact hr | exact hok | exact h1 | exact hb2 | exact hn | exact hnn | exact hd | exact hk2 | exact ho | rfl


theorem ddZ_all (l : List UInt8) (out o2 : List Nat) (n p c b : Nat) (f : Bool) (d k c2 p2 q b2 : Nat) (hi : (!(l == ([] : List UInt8))) = false) (hl : l.length ≤ 100000) (hn : out.length = n) (hnn : (nats out).length = n) (hp : p ≤ 100000) (hc : c ≤ 1114112) (hb : b ≤ 100000) (hd : (rdV (rdB b 0 1 0 l)).1 = d) (hk2 : (rdV (rdB b 0 1 0 l)).2 = k) (ho : (rdB b 0 1 0 l).isSome = false) (hd2 : d ≤ 2147483647) (hkl : k ≤ l.length) : Round Ext0 Try.prog clDd (lbody Try.prog 11 5) (ddS l out n p c b f) (.exit 0) (ddE out n) := by
  refine ⟨⟨true, (bs [(21, false)] ++ [(27, ⟨.c (.int .i64 d), none⟩), (28, ⟨.c (.int .i64 k), none⟩), (29, ⟨.c (.bool false), none⟩), (43, ⟨.c (.int .i64 (p + d : Nat)), none⟩), (49, ⟨.c (.int .i64 (n + 1 : Nat)), none⟩), (60, ⟨.c (.int .i64 (n + 1 : Nat)), none⟩), (50, ⟨.c (.int .i64 q), some []⟩), (51, ⟨.c (.int .i64 c2), none⟩), (61, ⟨.c (.int .i64 p2), some []⟩)])⟩, _, 60, ⟨[], [4], [0]⟩, [(!l == []) = false], lpBy_nil, by decide, Eq.trans (b := some ((.exit 0 : Exit), ⟨frame 76 [(4, (AV.sl 0 0 n))], [(.some ⟨3, false, (nats out)⟩)]⟩, _)) (by kernel_rfl) (congrArg (fun S : St => some ((.exit 0 : Exit), S, _)) (by first | rfl | (simp (disch := omega) only [std, hd, hk2, ho, hnn, Int.toNat_natCast]; first | done | rfl))), ?_⟩
  all_goals try simp (disch := omega) only [std, hd, hk2, ho, hnn, Int.toNat_natCast]
  all_goals repeat' apply And.intro
  all_goals first | exact True.intro | omega | with_reducible rfl | with_reducible assumption | rfl | exact hi | exact hr | exact hi | exact hn | exact hnn | exact hd | exact hk2 | exact ho | rfl

def ddX (o : Option (List Nat)) : Exit := if o.isSome = true then .exit 0 else .ret
def ddY (o : Option (List Nat)) : St := if o.isSome = true then ddE (o.getD []) (o.getD []).length else ddN

theorem nd02 : [0, 2].Nodup := by decide

theorem rdV_le {b : Nat} {s : List UInt8} : (rdV (rdB b 0 1 0 s)).1 ≤ 2147483647 ∧ (rdV (rdB b 0 1 0 s)).2 ≤ s.length := by
  cases h : rdB b 0 1 0 s with
  | none => exact ⟨Nat.zero_le _, Nat.zero_le _⟩
  | some y =>
    obtain ⟨d, k⟩ := y
    obtain ⟨r1, r2, r3, r4⟩ := rdV_some h
    rw [← h, r1]
    exact ⟨r2, r4⟩

theorem dd_walk (l0 : List UInt8) (hl0 : l0.length ≤ 100000) (b0 g0 : Nat) (x0 : Stt) (h2 : x0.p ≤ x0.out.length) (h3 : x0.out.length ≤ 255) (h4 : x0.c ≤ 1114111) (h5 : b0 ≤ 100000) (h6 : l0.length ≤ g0) {o : Option (List Nat)} (ho : decT g0 x0 b0 true l0 = o) :
    Tri Ext0 Try.prog (.loop (lbody Try.prog 11 5)) (ddS l0 x0.out x0.out.length x0.p x0.c b0 false) (ddX o) (ddY o) := by
  refine loop_inv mixed clDd_ok (fun x : List UInt8 × Stt × Nat × Bool × Nat => ddS x.1 x.2.1.out x.2.1.out.length x.2.1.p x.2.1.c x.2.2.1 x.2.2.2.1) (fun x => x.1.length ≤ l0.length ∧ x.2.1.p ≤ x.2.1.out.length ∧ x.2.1.out.length ≤ 255 ∧ x.2.1.c ≤ 1114111 ∧ x.2.2.1 ≤ 100000 ∧ x.1.length ≤ x.2.2.2.2 ∧ decT x.2.2.2.2 x.2.1 x.2.2.1 (!x.2.2.2.1) x.1 = o) (fun x => x.1.length) (fun x hx => ?_) (l0, x0, b0, false, g0) ⟨Nat.le_refl _, h2, h3, h4, h5, h6, ho⟩
  clear ho h2 h3 h4 h5 h6
  obtain ⟨l, x, b, f, g⟩ := x
  obtain ⟨h1, h2, h3, h4, h5, h6, h7⟩ := hx
  simp only at h1 h2 h3 h4 h5 h6 h7 ⊢
  have hnl := nats_length x.out
  have hrd := rdV_le (b := b) (s := l)
  cases l with
  | nil =>
    rw [decT_nil] at h7
    subst h7
    exact .inr ⟨by simp [ddX], ddZ_all [] x.out [] x.out.length x.p x.c b f 0 0 0 0 0 0 rfl (by simp) rfl hnl (by omega) (by omega) h5 rfl rfl rfl (by omega) (Nat.le_refl _)⟩
  | cons ch r =>
    have hi : (!((ch :: r) == ([] : List UInt8))) = true := rfl
    obtain ⟨g, rfl⟩ : ∃ m, g = m + 1 := ⟨g - 1, by simp only [List.length_cons] at h6; omega⟩
    rw [decT_cons _ _ _ _ (by simp)] at h7
    generalize hL : ch :: r = l at *
    have hpos : 0 < l.length := by rw [← hL]; simp
    cases hr : rdB b 0 1 0 l with
    | none =>
      rw [hr] at h7
      subst h7
      exact .inr ⟨by simp [ddX], ddA_all l x.out [] x.out.length x.p x.c b f 0 0 0 0 0 0 hi (by omega) rfl hnl (by omega) (by omega) h5 (by rw [hr]; rfl) (by rw [hr]; rfl) (by rw [hr]; rfl) (by omega) (by omega)⟩
    | some y =>
      obtain ⟨d, k⟩ := y
      rw [hr] at h7
      simp only at h7
      obtain ⟨r1, r2, r3, r4⟩ := rdV_some hr
      have e1 : (rdV (rdB b 0 1 0 l)).1 = d := by rw [r1]
      have e2 : (rdV (rdB b 0 1 0 l)).2 = k := by rw [r1]
      have e3 : (rdB b 0 1 0 l).isSome = true := by rw [hr]; rfl
      by_cases h255 : x.out.length = 255
      · have hok : okD x d = false := by unfold okD; rw [decide_eq_false (by omega), Bool.and_false]
        rw [hok, if_neg (by simp)] at h7
        subst h7
        exact .inr ⟨by simp [ddX], ddL_all l x.out [] x.out.length x.p x.c b f d k 0 0 0 0 hi h255 (by omega) rfl hnl (by omega) (by omega) h5 e1 e2 e3 r2 r4⟩
      · have hq2 := Nat.div_le_self (x.p + d) (x.out.length + 1)
        have hp2 := Nat.mod_lt (x.p + d) (show 0 < x.out.length + 1 by omega)
        have hD := okI_nat (x.c + (x.p + d) / (x.out.length + 1))
        cases hok : okD x d with
        | false =>
          rw [hok, if_neg (by simp)] at h7
          subst h7
          have hI : okI ((x.c + (x.p + d) / (x.out.length + 1) : Nat) : Int) = false := by
            rw [hD]
            unfold okD at hok
            rw [decide_eq_true (by omega), Bool.and_true] at hok
            exact hok
          exact .inr ⟨by simp [ddX], ddB_all l x.out [] x.out.length x.p x.c b f d k _ _ _ 0 hi (by omega) (tdNat _ (by omega)) (by omega) rfl (tmNat _ _) hI (by omega) rfl hnl (by omega) (by omega) h5 e1 e2 e3 r2 r4⟩
        | true =>
          rw [hok, if_pos rfl] at h7
          have hok2 := hok
          unfold okD at hok2
          rw [Bool.and_eq_true, decide_eq_true_eq] at hok2
          obtain ⟨k1, k2⟩ := hok2
          have kc := okC_le k1
          have hb2 := adp_le (!f) (okD_le hok).1 (n := x.out.length + 1)
          have hlen := stD_len x d
          have hput : insPut (nats x.out) ((x.p + d) % (x.out.length + 1)) (.c (.int .i64 (x.c + (x.p + d) / (x.out.length + 1) : Nat))) = nats (stD x d).out := by
            unfold insPut
            rw [nats_take, nats_drop]
            show _ = nats (x.out.take ((x.p + d) % (x.out.length + 1)) ++ (x.c + (x.p + d) / (x.out.length + 1)) :: x.out.drop ((x.p + d) % (x.out.length + 1)))
            rw [nats_app]
            rfl
          refine .inl ⟨(l.drop k, stD x d, adp d (x.out.length + 1) (!f), true, g), ⟨by simp only [List.length_drop]; omega, by simp only; rw [hlen]; show (x.p + d) % (x.out.length + 1) + 1 ≤ _; omega, by simp only; omega, kc, by simp only; omega, by simp only [List.length_drop]; omega, h7⟩, by simp only [List.length_drop]; omega, ?_⟩
          simp only
          rw [hlen]
          exact ddC_all l x.out (stD x d).out x.out.length x.p x.c b f d k _ _ _ _ hi k2 (tdNat _ (by omega)) (by omega) rfl (tmNat _ _) (hD.trans k1) (by omega) hput rfl (by omega) rfl hnl (by omega) (by omega) h5 e1 e2 e3 r2 r4

theorem decT_le : ∀ (g : Nat) (x : Stt) (b : Nat) (f : Bool) (s : List UInt8) (l : List Nat), x.out.length ≤ 255 → decT g x b f s = some l → l.length ≤ 255
  | g, x, b, f, [], l, hx, h => by
    rw [decT_nil] at h
    cases h
    exact hx
  | 0, x, b, f, c :: r, l, hx, h => by
    have : decT 0 x b f (c :: r) = some x.out ∨ decT 0 x b f (c :: r) = none := by
      first | exact .inr rfl | exact .inl rfl
    rcases this with e | e
    · rw [e] at h; cases h; exact hx
    · rw [e] at h; cases h
  | g + 1, x, b, f, c :: r, l, hx, h => by
    rw [decT_cons _ _ _ _ (by simp)] at h
    split at h
    · cases h
    · split at h
      · rename_i hok
        have := (okD_le hok).2.2.1
        exact decT_le g _ _ _ _ l (by rw [stD_len]; omega) h
      · cases h

theorem decT_far {g : Nat} {x : Stt} {b : Nat} {f : Bool} {s : List UInt8} (hx : 255 < x.out.length) (hg : s.length ≤ g) {l : List Nat} (h : decT g x b f s = some l) : ¬ l.length ≤ 255 := by
  cases s with
  | nil =>
    rw [decT_nil] at h
    cases h
    omega
  | cons c r =>
    obtain ⟨g, rfl⟩ : ∃ m, g = m + 1 := ⟨g - 1, by simp only [List.length_cons] at hg; omega⟩
    rw [decT_cons _ _ _ _ (by simp)] at h
    split at h
    · cases h
    · split at h
      · rename_i hok
        have := (okD_le hok).2.2.1
        omega
      · cases h

/-- What is decoded, by the program's own steps. -/
theorem decP_is (l : List UInt8) : decP l = if frB l = true then decT l.length ⟨frL l, 0, 128⟩ 72 true (frS l) else none := by
  have hb : decP l = if loB l (cutD l) = true then (match decT l.length ⟨(l.take (cutD l)).map UInt8.toNat, 0, 128⟩ 72 true (if 0 < cutD l then l.drop (cutD l + 1) else l) with
      | some l => if l.length ≤ 255 then some l else none
      | none => none) else none := rfl
  have hc := cutD_le l
  have hlen : ((l.take (cutD l)).map UInt8.toNat).length = cutD l := by rw [List.length_map, List.length_take]; omega
  rw [hb]
  unfold frL frS frB
  cases h2 : loB l (cutD l) with
  | false => rfl
  | true =>
    rw [if_pos rfl, Bool.true_and]
    by_cases h255 : cutD l ≤ 255
    · rw [decide_eq_true h255]
      simp only [if_true]
      split
      · rename_i o ho
        rw [ho, if_pos (decT_le _ _ _ _ _ _ (by simp only; omega) ho)]
      · rename_i ho
        rw [ho]
    · rw [decide_eq_false h255]
      simp only [Bool.false_eq_true, if_false]
      split
      · rename_i o ho
        exact if_neg (decT_far (by simp only; omega) (by
          split
          · rw [List.length_drop]; omega
          · exact Nat.le_refl _) ho)
      · rfl

noncomputable def ddLp (l : List UInt8) (N : List Nat) (e : Exit) (R : St) : List (Nat × Lp) := [(5, ⟨lbody Try.prog 11 5, ⟨[], [0, 4, 6], [0, 2]⟩, ddS l N N.length 0 128 72 false, e, R⟩)]

theorem ddm1_all (l : List UInt8) (o2 : List Nat) (n : Nat) (hl : l.length ≤ 100000) (hb : frB l = false) : ∃ (h : Hints) (p : List Prop), outTell (⟨[(0, 3)], [0, 1], [1]⟩) (aBody Try.prog clDd h (lpBy ([])) 60 11 ([.c (str l)]) []) = some (.tu [.sl 0 0 0, .c (.bool false)], [some ⟨3, false, []⟩], p) ∧ allP p := by
  refine ⟨⟨true, (bs [(18, true)])⟩, [((l.length : Nat) ≤ ((100000 : Nat))),
 (!frB l) = true], by kernel_rfl, ?_⟩
  all_goals try simp (disch := omega) only [std, hb, Bool.not_true, Bool.not_false]
  all_goals repeat' apply And.intro
  all_goals first | exact True.intro | omega | with_reducible rfl | with_reducible assumption | exact hb | rfl


theorem ddm2_all (l : List UInt8) (o2 : List Nat) (n : Nat) (hl : l.length ≤ 100000) (hb : frB l = true) : ∃ (h : Hints) (p : List Prop), outTell (⟨[], [0, 1], [0]⟩) (aBody Try.prog clDd h (lpBy (ddLp (frS l) (frL l) .ret ddN)) 60 11 ([.c (str l)]) []) = some (.tu [.sl 0 0 0, .c (.bool false)], [some ⟨3, false, []⟩], p) ∧ allP p := by
  refine ⟨⟨true, (bs [(18, false)])⟩, [((l.length : Nat) ≤ ((100000 : Nat))),
 (!frB l) = false,
 (((4 : Nat) : Nat) ≤ ((4 : Nat))),
 ((lbody Try.prog (11 : FuncId) (5 : Nat) : Go.Code)) = (lbody Try.prog (11 : FuncId) (5 : Nat)),
 ((ddS (frS l) (frL l) (frL l).length (0 : Nat) (128 : Nat) (72 : Nat) false : Go.Proofs.Ytljgmgbjfjhjmaa.St)) = (ddS (frS l) (frL l) (frL l).length (0 : Nat) (128 : Nat) (72 : Nat) false)], by kernel_rfl, ?_⟩
  all_goals try simp (disch := omega) only [std, hb, Bool.not_true, Bool.not_false]
  all_goals repeat' apply And.intro
  all_goals first | exact True.intro | omega | with_reducible rfl | with_reducible assumption | exact hb | rfl


theorem ddm3_all (l : List UInt8) (o2 : List Nat) (n : Nat) (hl : l.length ≤ 100000) (hb : frB l = true) : ∃ (h : Hints) (p : List Prop), outTell (⟨[], [0, 1], [0]⟩) (aBody Try.prog clDd h (lpBy (ddLp (frS l) (frL l) (.exit 0) (ddE o2 n))) 60 11 ([.c (str l)]) []) = some (.tu [.sl 0 0 n, .c (.bool true)], [some ⟨3, false, nats o2⟩], p) ∧ allP p := by
  refine ⟨⟨true, (bs [(18, false)])⟩, [((l.length : Nat) ≤ ((100000 : Nat))),
 (!frB l) = false,
 (((4 : Nat) : Nat) ≤ ((4 : Nat))),
 ((lbody Try.prog (11 : FuncId) (5 : Nat) : Go.Code)) = (lbody Try.prog (11 : FuncId) (5 : Nat)),
 ((ddS (frS l) (frL l) (frL l).length (0 : Nat) (128 : Nat) (72 : Nat) false : Go.Proofs.Ytljgmgbjfjhjmaa.St)) = (ddS (frS l) (frL l) (frL l).length (0 : Nat) (128 : Nat) (72 : Nat) false)], by kernel_rfl, ?_⟩
  all_goals try simp (disch := omega) only [std, hb, Bool.not_true, Bool.not_false]
  all_goals repeat' apply And.intro
  all_goals first | exact True.intro | omega | with_reducible rfl | with_reducible assumption | exact hb | rfl

theorem pdec_ok : HSpecOK Try.prog 11 dec7Spec := by
  refine hspec_new mixed clDd_ok fun args hp r hp' q hs hq => ?_
  unfold dec7Spec at hs
  split at hs
  · rename_i s
    obtain ⟨⟨⟨l⟩⟩, rfl⟩ : ∃ b : ByteArray, b = s := ⟨s, rfl⟩
    simp only [Option.some.injEq, Prod.mk.injEq] at hs
    obtain ⟨rfl, rfl, rfl⟩ := hs
    have hl : l.length ≤ 100000 := hq.1
    refine ⟨rfl, ?_⟩
    simp only [sb_mk]
    have hP := decP_is l
    unfold decL
    cases hb : frB l with
    | false =>
      rw [hb, if_neg (by simp)] at hP
      rw [hP]
      obtain ⟨hh, p, e, hp⟩ := ddm1_all l [] 0 hl hb
      exact ⟨_, _, _, _, _, (by decide), lpBy_nil, e, hp⟩
    | true =>
      rw [hb, if_pos rfl] at hP
      have hS := frS_len l
      have hL : (frL l).length ≤ 255 := by
        unfold frL
        rw [if_pos hb]
        unfold frB at hb
        rw [Bool.and_eq_true, decide_eq_true_eq] at hb
        rw [List.length_map, List.length_take]
        omega
      have w := dd_walk (frS l) (by omega) 72 l.length ⟨frL l, 0, 128⟩ (Nat.zero_le _) hL (by simp) (by omega) hS hP.symm
      cases ho : decP l with
      | none =>
        rw [ho] at w
        obtain ⟨hh, p, e, hp⟩ := ddm2_all l [] 0 hl hb
        exact ⟨_, _, _, _, _, (by decide), lpBy_cons lpBy_nil nd02 w, e, hp⟩
      | some o2 =>
        rw [ho] at w
        obtain ⟨hh, p, e, hp⟩ := ddm3_all l o2 o2.length hl hb
        exact ⟨_, _, _, _, _, (by decide), lpBy_cons lpBy_nil nd02 w, e, hp⟩
  · simp at hs

end Go.Proofs.Ytljgmgbjfjhjmaa
