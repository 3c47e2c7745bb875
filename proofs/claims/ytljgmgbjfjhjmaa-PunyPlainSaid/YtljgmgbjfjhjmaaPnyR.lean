/- Signs as letters: the program's state, its letters, and what it looks up. -/
import Derived.Test.YtljgmgbjfjhjmaaPnyQ
import Derived.Test.YtljgmgbjfjhjmaaLevP
import Derived.Test.YtljgmgbjfjhjmaaBldS
namespace Go.Proofs.Ytljgmgbjfjhjmaa
open Go.RowKit Pny
set_option linter.unusedVariables false
set_option linter.unusedSimpArgs false

/-! The next bias. -/
def toH (a b c : Nat) (f : Bool) : Heap := [some ⟨44, true, [.c (.int .i64 a), .c (.int .i64 b), .c (.int .i64 c), .c (.bool f)]⟩]
def toS (e k a b c : Nat) : St := ⟨frame 41 [(0, .pt 0 0), (6, .c (.int .i64 e)), (7, .c (.int .i64 k))], toH a b c true⟩

theorem toA_all (e k q a b c : Nat) (he : ¬ e ≤ 455) (hq : q = e / 35) (hel : e ≤ 4294967294) (hk : k ≤ 1000000) : RoundK 1 Try.prog cl0 (lbody Try.prog 23 6) (toS e k a b c) (.normal) (toS q (k + 36) a b c) := by
  refine ⟨⟨true, (bs [(26, true)] ++ [(28, ⟨.c (.int .i64 q), none⟩)])⟩, _, 60, ⟨[], [0, 6, 7], [0]⟩, [decide ((↑e : Int) > 455) = true,
 ((IntKind.i64.wrap ((↑e : Int).tdiv (35 : Int)) : Int)) = ((↑q : Int)),
 (IntKind.i64.min : Int) ≤ ↑k + 36,
 (↑k + 36 : Int) ≤ IntKind.i64.max], lpBy_nilK, by decide, by kernel_rfl, ?_⟩
  all_goals try simp (disch := omega) only [std]
  all_goals repeat' apply And.intro
  all_goals first | exact True.intro | omega | with_reducible rfl | with_reducible assumption | exact hq | rfl


theorem toZ_all (e k q a b c : Nat) (he : e ≤ 455) (hel : e ≤ 4294967294) (hk : k ≤ 1000000) : RoundK 1 Try.prog cl0 (lbody Try.prog 23 6) (toS e k a b c) (.exit 0) (toS e k a b c) := by
  refine ⟨⟨true, (bs [(26, false)] ++ [(28, ⟨.c (.int .i64 q), none⟩)])⟩, _, 60, ⟨[], [0, 6, 7], [0]⟩, [decide ((↑e : Int) > 455) = false], lpBy_nilK, by decide, by kernel_rfl, ?_⟩
  all_goals try simp (disch := omega) only [std]
  all_goals repeat' apply And.intro
  all_goals first | exact True.intro | omega | with_reducible rfl | with_reducible assumption | rfl

theorem to_walk (e0 : Nat) (h : e0 ≤ 4294967294) (a b c : Nat) : Tri (ExtK 1) Try.prog (.loop (lbody Try.prog 23 6)) (toS e0 0 a b c) (.exit 0) (toS (adEnd 20 e0 0).1 (adEnd 20 e0 0).2 a b c) := by
  refine loop_invK mixed cl0_ok (fun x : Nat × Nat × Nat => toS x.1 x.2.1 a b c) (fun x => x.1 ≤ 4294967294 ∧ x.1 ≤ 455 * 35 ^ x.2.2 ∧ x.2.2 ≤ 20 ∧ x.2.1 + 36 * x.2.2 ≤ 720 ∧ adEnd x.2.2 x.1 x.2.1 = adEnd 20 e0 0) (fun x => x.2.2) (fun x hx => ?_) (e0, 0, 20) ⟨h, show e0 ≤ 455 * 35 ^ 20 from Nat.le_trans h (by decide), Nat.le_refl _, by simp, rfl⟩
  obtain ⟨e, k, f⟩ := x
  obtain ⟨h1, h2, h3, h4, h5⟩ := hx
  simp only at h1 h2 h3 h4 h5 ⊢
  by_cases he : e ≤ 455
  · have : adEnd f e k = (e, k) := by
      cases f with
      | zero => rfl
      | succ f => unfold adEnd; rw [if_neg (by omega)]
    rw [this] at h5
    rw [← h5]
    exact .inr ⟨by simp, toZ_all e k 0 a b c he h1 (by omega)⟩
  · obtain ⟨f, rfl⟩ : ∃ g, f = g + 1 := ⟨f - 1, by
      cases f with
      | zero => simp at h2; omega
      | succ f => omega⟩
    have h5 : adEnd f (e / 35) (k + 36) = adEnd 20 e0 0 := by
      rw [← h5]
      show _ = (if e > 455 then _ else _)
      rw [if_pos (by omega)]
    exact .inl ⟨(e / 35, k + 36, f), ⟨by simp only; omega, by simp only; rw [Nat.pow_succ] at h2; omega, by simp only; omega, by simp only; omega, h5⟩, by simp only; omega, toA_all e k (e / 35) a b c he rfl h1 (by omega)⟩

theorem toldT_all (d n e0 q e x y r v a b c : Nat) (hd : d ≤ 2147483647) (n1 : 1 ≤ n) (n2 : n ≤ 1000) (he0 : d / 700 = e0) (hq : IntKind.i64.wrap ((e0 : Int).tdiv (n : Int)) = (q : Nat)) (hql : q ≤ 2147483647) (he : e0 + q = e) (hx : x ≤ 4294967294) (hy : y ≤ 720) (hr : IntKind.i64.wrap ((36 * (x : Int)).tdiv ((x : Int) + 38)) = (r : Nat)) (hv : y + r = v) (hrl : r ≤ 4294967294 * 36) : ∃ (h : Hints) (p : List Prop), outKill [] (aBody Try.prog cl0 h (lpBy ([(6, ⟨lbody Try.prog 23 6, ⟨[], [0, 6, 7], [0]⟩, toS e 0 a b c, .exit 0, toS x y a b c⟩)])) 60 23 ([.pt 0 0, .c (.int .i64 d), .c (.int .i64 n)]) (toH a b c false)) = some (.tu [], toH v b c true, p) ∧ allP p := by
  refine ⟨⟨true, ([(9, ⟨.c (.int .i64 (d / 2 : Nat)), none⟩), (16, ⟨.c (.int .i64 e0), none⟩), (23, ⟨.c (.int .i64 q), some []⟩), (24, ⟨.c (.int .i64 e), none⟩), (37, ⟨.c (.int .i64 r), some []⟩), (38, ⟨.c (.int .i64 v), none⟩)])⟩, [((IntKind.i64.wrap ((↑d : Int).tdiv (2 : Int)) : Int)) = ((↑(d / (2 : Nat)) : Int)),
 (((0 : Nat) : Nat) < ((1 : Nat))),
 ((IntKind.i64.wrap ((↑d : Int).tdiv (700 : Int)) : Int)) = ((↑e0 : Int)),
 (((4 : Nat) : Nat) ≤ ((4 : Nat))),
 (↑n : Int) ≠ (0 : Int),
 ((IntKind.i64.wrap ((↑e0 : Int).tdiv (↑n : Int)) : Int)) = ((↑q : Int)),
 ((([ck ((↑n : Int) ≠ (0 : Int))], AV.c (Value.int IntKind.i64 (IntKind.i64.wrap ((↑e0 : Int).tdiv (↑n : Int)))), Cmd.nop).snd.snd.cells : List AV)) = ([]),
 (IntKind.i64.min : Int) ≤ ↑e0 + ↑q,
 (↑e0 + ↑q : Int) ≤ IntKind.i64.max,
 (↑e0 + ↑q : Int) = ↑e,
 ((lbody Try.prog (23 : FuncId) (6 : Nat) : Go.Code)) = (lbody Try.prog (23 : FuncId) (6 : Nat)),
 ((toS e (0 : Nat) a b c : Go.Proofs.Ytljgmgbjfjhjmaa.St)) = (toS e (0 : Nat) a b c),
 (IntKind.i64.min : Int) ≤ 36 * ↑x,
 (36 * ↑x : Int) ≤ IntKind.i64.max,
 (IntKind.i64.min : Int) ≤ ↑x + 38,
 (↑x + 38 : Int) ≤ IntKind.i64.max,
 (↑x : Int) + (38 : Int) ≠ (0 : Int),
 ((IntKind.i64.wrap (((36 : Int) * (↑x : Int)).tdiv ((↑x : Int) + (38 : Int))) : Int)) = ((↑r : Int)),
 ((([ck ((↑x : Int) + (38 : Int) ≠ (0 : Int))], AV.c (Value.int IntKind.i64 (IntKind.i64.wrap (((36 : Int) * (↑x : Int)).tdiv ((↑x : Int) + (38 : Int))))), Cmd.nop).snd.snd.cells : List AV)) = ([]),
 (IntKind.i64.min : Int) ≤ ↑y + ↑r,
 (↑y + ↑r : Int) ≤ IntKind.i64.max,
 (↑y + ↑r : Int) = ↑v,
 (((1 : Nat) : Nat) ≤ ((4 : Nat)))], by kernel_rfl, ?_⟩
  all_goals try simp (disch := omega) only [std]
  all_goals repeat' apply And.intro
  all_goals first | exact True.intro | omega | with_reducible rfl | with_reducible assumption | exact hq | exact hr | (rw [he0] at *; exact hq) | (rw [he0]; exact hq) | rfl | exact he0 | exact hq | exact he | exact hr | exact hv | rfl


theorem toldF_all (d n e0 q e x y r v a b c : Nat) (hd : d ≤ 2147483647) (n1 : 1 ≤ n) (n2 : n ≤ 1000) (he0 : d / 2 = e0) (hq : IntKind.i64.wrap ((e0 : Int).tdiv (n : Int)) = (q : Nat)) (hql : q ≤ 2147483647) (he : e0 + q = e) (hx : x ≤ 4294967294) (hy : y ≤ 720) (hr : IntKind.i64.wrap ((36 * (x : Int)).tdiv ((x : Int) + 38)) = (r : Nat)) (hv : y + r = v) (hrl : r ≤ 4294967294 * 36) : ∃ (h : Hints) (p : List Prop), outKill [] (aBody Try.prog cl0 h (lpBy ([(6, ⟨lbody Try.prog 23 6, ⟨[], [0, 6, 7], [0]⟩, toS e 0 a b c, .exit 0, toS x y a b c⟩)])) 60 23 ([.pt 0 0, .c (.int .i64 d), .c (.int .i64 n)]) (toH a b c true)) = some (.tu [], toH v b c true, p) ∧ allP p := by
  refine ⟨⟨true, ([(9, ⟨.c (.int .i64 (d / 2 : Nat)), none⟩), (16, ⟨.c (.int .i64 e0), none⟩), (23, ⟨.c (.int .i64 q), some []⟩), (24, ⟨.c (.int .i64 e), none⟩), (37, ⟨.c (.int .i64 r), some []⟩), (38, ⟨.c (.int .i64 v), none⟩)])⟩, [((IntKind.i64.wrap ((↑d : Int).tdiv (2 : Int)) : Int)) = ((↑(d / (2 : Nat)) : Int)),
 (((0 : Nat) : Nat) < ((1 : Nat))),
 (↑n : Int) ≠ (0 : Int),
 ((IntKind.i64.wrap ((↑(d / (2 : Nat)) : Int).tdiv (↑n : Int)) : Int)) = ((↑q : Int)),
 ((([ck ((↑n : Int) ≠ (0 : Int))], AV.c (Value.int IntKind.i64 (IntKind.i64.wrap ((↑(d / (2 : Nat)) : Int).tdiv (↑n : Int)))), Cmd.nop).snd.snd.cells : List AV)) = ([]),
 (IntKind.i64.min : Int) ≤ ↑(d / 2) + ↑q,
 (↑(d / 2) + ↑q : Int) ≤ IntKind.i64.max,
 (↑(d / 2) + ↑q : Int) = ↑e,
 ((lbody Try.prog (23 : FuncId) (6 : Nat) : Go.Code)) = (lbody Try.prog (23 : FuncId) (6 : Nat)),
 ((toS e (0 : Nat) a b c : Go.Proofs.Ytljgmgbjfjhjmaa.St)) = (toS e (0 : Nat) a b c),
 (IntKind.i64.min : Int) ≤ 36 * ↑x,
 (36 * ↑x : Int) ≤ IntKind.i64.max,
 (IntKind.i64.min : Int) ≤ ↑x + 38,
 (↑x + 38 : Int) ≤ IntKind.i64.max,
 (↑x : Int) + (38 : Int) ≠ (0 : Int),
 ((IntKind.i64.wrap (((36 : Int) * (↑x : Int)).tdiv ((↑x : Int) + (38 : Int))) : Int)) = ((↑r : Int)),
 ((([ck ((↑x : Int) + (38 : Int) ≠ (0 : Int))], AV.c (Value.int IntKind.i64 (IntKind.i64.wrap (((36 : Int) * (↑x : Int)).tdiv ((↑x : Int) + (38 : Int))))), Cmd.nop).snd.snd.cells : List AV)) = ([]),
 (IntKind.i64.min : Int) ≤ ↑y + ↑r,
 (↑y + ↑r : Int) ≤ IntKind.i64.max,
 (↑y + ↑r : Int) = ↑v,
 (((1 : Nat) : Nat) ≤ ((4 : Nat)))], by kernel_rfl, ?_⟩
  all_goals try simp (disch := omega) only [std]
  all_goals repeat' apply And.intro
  all_goals first | exact True.intro | omega | with_reducible rfl | with_reducible assumption | exact hq | exact hr | (rw [he0] at *; exact hq) | (rw [he0]; exact hq) | rfl | exact he0 | exact hq | exact he | exact hr | exact hv | rfl

def tdSpec : HSpec
  | [.pt 0 0, .c (.int .i64 d), .c (.int .i64 n)], [some ⟨t, true, [.c (.int .i64 a), .c (.int .i64 b), .c (.int .i64 c), .c (.bool f)]⟩] => if t = 44 then
      some (.tu [], toH (adp d.toNat n.toNat (!f)) b.toNat c.toNat true, [0 ≤ d, d ≤ 2147483647, 1 ≤ n, n ≤ 1000, 0 ≤ a, 0 ≤ b, 0 ≤ c]) else none
  | _, _ => none

theorem told_ok : HSpecOK Try.prog 23 tdSpec := by
  refine hspec_lp mixed cl0_ok fun args hp r hp' q hs hq => ?_
  unfold tdSpec at hs
  split at hs
  · rename_i d n t a b c f
    split at hs
    · rename_i ht
      subst ht
      simp only [Option.some.injEq, Prod.mk.injEq] at hs
      obtain ⟨rfl, rfl, rfl⟩ := hs
      obtain ⟨h0, h1, h2, h3, a0, b0, c0, _⟩ := hq
      obtain ⟨d, rfl⟩ : ∃ k : Nat, d = (k : Int) := ⟨d.toNat, by omega⟩
      obtain ⟨n, rfl⟩ : ∃ k : Nat, n = (k : Int) := ⟨n.toNat, by omega⟩
      obtain ⟨a, rfl⟩ : ∃ k : Nat, a = (k : Int) := ⟨a.toNat, by omega⟩
      obtain ⟨b, rfl⟩ : ∃ k : Nat, b = (k : Int) := ⟨b.toNat, by omega⟩
      obtain ⟨c, rfl⟩ : ∃ k : Nat, c = (k : Int) := ⟨c.toNat, by omega⟩
      rw [Int.toNat_natCast, Int.toNat_natCast, Int.toNat_natCast, Int.toNat_natCast, adp_eq]
      have hE : adE d n (!f) = (if (!f) = true then d / 700 else d / 2) + (if (!f) = true then d / 700 else d / 2) / n := rfl
      have he0 : (if (!f) = true then d / 700 else d / 2) ≤ 1073741823 := by split <;> omega
      have hq := Nat.div_le_self (if (!f) = true then d / 700 else d / 2) n
      obtain ⟨k1, k2, k3⟩ := adEnd_is 20 (adE d n (!f)) 0
      have hw := to_walk (adE d n (!f)) (by omega) a b c
      generalize hx : (adEnd 20 (adE d n (!f)) 0).1 = x at *
      generalize hy : (adEnd 20 (adE d n (!f)) 0).2 = y at *
      have hr : IntKind.i64.wrap ((36 * (x : Int)).tdiv ((x : Int) + 38)) = ((36 * x / (x + 38) : Nat) : Int) := by
        have := tdNat (m := 36 * x) (x + 38) (by omega)
        rw [← this]
        simp
      have hrl := Nat.div_le_self (36 * x) (x + 38)
      cases f with
      | false =>
        simp only [Bool.not_false, if_true] at hE he0 hq hw k2
        obtain ⟨hh, p, e, hp⟩ := toldT_all d n _ _ _ x y _ _ a b c (by omega) (by omega) (by omega) rfl (tdNat n (by omega)) (by omega) hE.symm (by omega) (by omega) hr rfl (by omega)
        exact ⟨_, _, _, _, _, lpBy_consK lpBy_nilK ⟨nd0, rfl⟩ hw, e, hp⟩
      | true =>
        simp only [Bool.not_true, Bool.false_eq_true, if_false] at hE he0 hq hw k2
        obtain ⟨hh, p, e, hp⟩ := toldF_all d n _ _ _ x y _ _ a b c (by omega) (by omega) (by omega) rfl (tdNat n (by omega)) (by omega) hE.symm (by omega) (by omega) hr rfl (by omega)
        exact ⟨_, _, _, _, _, lpBy_consK lpBy_nilK ⟨nd0, rfl⟩ hw, e, hp⟩
    · simp at hs
  · simp at hs

/-! Where the last hyphen stands. -/
def lasG (l : List UInt8) : Nat → Int
  | 0 => -1
  | n + 1 => if l.getD n 0 = 45 then (n : Nat) else lasG l n

def lsS (l : List UInt8) (z : Int) : St := ⟨frame 19 [(0, .c (str l)), (1, .c (.int .u8 45)), (5, .c (.int .i64 z))], []⟩
def lsR (z : Int) : St := ⟨frame 19 [(4, .c (.int .i64 z))], []⟩

theorem lsA_all (l : List UInt8) (i : Nat) (hi : i < l.length) (hc : (((l.getD i 0).toNat : Nat) : Int) = 45) (hl : l.length ≤ 100000) : Round Ext0 Try.prog cl0 (lbody Try.prog 47 2) (lsS l ((i : Nat) : Int)) (.ret) (lsR ((i : Nat) : Int)) := by
  refine ⟨⟨true, (bs [(10, true), (17, true)])⟩, _, 60, ⟨[], [4], []⟩, [(true) = true,
 (0 : Int) ≤ ↑i,
 (↑i : Int) < ↑l.length,
 ((↑(l.getD i 0).toNat : Int) == (45 : Int)) = true], lpBy_nil, by decide, by kernel_rfl, ?_⟩
  all_goals try simp (disch := omega) only [std]
  all_goals repeat' apply And.intro
  all_goals first | exact True.intro | omega | with_reducible rfl | with_reducible assumption | exact hc | rfl


theorem lsB_all (l : List UInt8) (i : Nat) (hi : i < l.length) (hc : ¬ (((l.getD i 0).toNat : Nat) : Int) = 45) (hl : l.length ≤ 100000) : Round Ext0 Try.prog cl0 (lbody Try.prog 47 2) (lsS l ((i : Nat) : Int)) (.normal) (lsS l (((i : Nat) : Int) - 1)) := by
  refine ⟨⟨true, (bs [(10, true), (17, false)])⟩, _, 60, ⟨[], [0, 1, 5], []⟩, [(true) = true,
 (0 : Int) ≤ ↑i,
 (↑i : Int) < ↑l.length,
 ((↑(l.getD i 0).toNat : Int) == (45 : Int)) = false,
 (IntKind.i64.min : Int) ≤ ↑i - 1,
 (↑i - 1 : Int) ≤ IntKind.i64.max], lpBy_nil, by decide, by kernel_rfl, ?_⟩
  all_goals try simp (disch := omega) only [std]
  all_goals repeat' apply And.intro
  all_goals first | exact True.intro | omega | with_reducible rfl | with_reducible assumption | exact hc | rfl


theorem lsZ_all (l : List UInt8) (i : Nat) (hi : i = 0) (hl : l.length ≤ 100000) : Round Ext0 Try.prog cl0 (lbody Try.prog 47 2) (lsS l (-1)) (.exit 0) (⟨frame 19 [], []⟩) := by
  refine ⟨⟨true, (bs [(10, false)])⟩, _, 60, ⟨[], [], []⟩, [(false) = false], lpBy_nil, by decide, by kernel_rfl, ?_⟩
  all_goals try simp (disch := omega) only [std]
  all_goals repeat' apply And.intro
  all_goals first | exact True.intro | omega | with_reducible rfl | with_reducible assumption | exact hi | rfl

def lsX (z : Int) : Exit := if z = -1 then .exit 0 else .ret
def lsY (z : Int) : St := if z = -1 then ⟨frame 19 [], []⟩ else lsR z

theorem ls_walk (l : List UInt8) (hl : l.length ≤ 100000) : Tri Ext0 Try.prog (.loop (lbody Try.prog 47 2)) (lsS l ((l.length : Int) - 1)) (lsX (lasG l l.length)) (lsY (lasG l l.length)) := by
  refine loop_inv mixed cl0_ok (fun i : Nat => lsS l ((i : Int) - 1)) (fun i => i ≤ l.length ∧ lasG l i = lasG l l.length) (fun i => i) (fun i hx => ?_) l.length ⟨Nat.le_refl _, rfl⟩
  obtain ⟨h1, h2⟩ := hx
  cases i with
  | zero =>
    have h2 : -1 = lasG l l.length := h2
    rw [← h2]
    exact .inr ⟨by simp [lsX], lsZ_all l 0 rfl hl⟩
  | succ i =>
    have e : ((i + 1 : Nat) : Int) - 1 = (i : Nat) := by omega
    simp only [e]
    have h2 : (if l.getD i 0 = 45 then ((i : Nat) : Int) else lasG l i) = lasG l l.length := h2
    by_cases hc : l.getD i 0 = 45
    · rw [if_pos hc] at h2
      rw [← h2]
      have e1 : lsX ((i : Nat) : Int) = .ret := if_neg (by omega)
      have e2 : lsY ((i : Nat) : Int) = lsR ((i : Nat) : Int) := if_neg (by omega)
      rw [e1, e2]
      exact .inr ⟨by simp, lsA_all l i h1 (by rw [hc]; rfl) hl⟩
    · rw [if_neg hc] at h2
      exact .inl ⟨i, ⟨by omega, h2⟩, by omega, lsB_all l i h1 (u8_ne (k := 45) (by decide) hc) hl⟩

noncomputable def lsLp (l : List UInt8) (e : Exit) (R : St) : List (Nat × Lp) := [(2, ⟨lbody Try.prog 47 2, ⟨[], [0, 1, 5], []⟩, lsS l ((l.length : Int) - 1), e, R⟩)]

theorem lsm1_all (l : List UInt8) (z : Int) (hl : l.length ≤ 100000) : ∃ (h : Hints) (p : List Prop), outcome Try.prog 47 (aBody Try.prog cl0 h (lpBy (lsLp l (.exit 0) ⟨frame 19 [], []⟩)) 60 47 ([.c (str l), .c (.int .u8 45)]) ([])) = some (.c (.int .i64 (-1)), p) ∧ allP p := by
  refine ⟨⟨true, bs []⟩, [(IntKind.i64.min : Int) ≤ ↑l.length - 1,
 (↑l.length - 1 : Int) ≤ IntKind.i64.max,
 ((lbody Try.prog (47 : FuncId) (2 : Nat) : Go.Code)) = (lbody Try.prog (47 : FuncId) (2 : Nat)),
 ((lsS l ((↑l.length : Int) - (1 : Int)) : Go.Proofs.Ytljgmgbjfjhjmaa.St)) = (lsS l ((↑l.length : Int) - (1 : Int)))], by kernel_rfl, ?_⟩
  all_goals try simp (disch := omega) only [std]
  all_goals repeat' apply And.intro
  all_goals first | exact True.intro | omega | with_reducible rfl | with_reducible assumption | rfl


theorem lsm2_all (l : List UInt8) (z : Int) (hl : l.length ≤ 100000) : ∃ (h : Hints) (p : List Prop), outcome Try.prog 47 (aBody Try.prog cl0 h (lpBy (lsLp l .ret (lsR z))) 60 47 ([.c (str l), .c (.int .u8 45)]) ([])) = some (.c (.int .i64 z), p) ∧ allP p := by
  refine ⟨⟨true, bs []⟩, [(IntKind.i64.min : Int) ≤ ↑l.length - 1,
 (↑l.length - 1 : Int) ≤ IntKind.i64.max,
 ((lbody Try.prog (47 : FuncId) (2 : Nat) : Go.Code)) = (lbody Try.prog (47 : FuncId) (2 : Nat)),
 ((lsS l ((↑l.length : Int) - (1 : Int)) : Go.Proofs.Ytljgmgbjfjhjmaa.St)) = (lsS l ((↑l.length : Int) - (1 : Int)))], by kernel_rfl, ?_⟩
  all_goals try simp (disch := omega) only [std]
  all_goals repeat' apply And.intro
  all_goals first | exact True.intro | omega | with_reducible rfl | with_reducible assumption | rfl

def lsSpec : Spec
  | [.c (.string s), .c (.int .u8 z)] => some (.c (.int .i64 (lasG (sb s) (sb s).length)), [z = 45, (sb s).length ≤ 100000])
  | _ => none

theorem last_ok : SpecOK Try.prog 47 lsSpec := by
  refine spec_of mixed cl0_ok fun args r q hs hq => ?_
  unfold lsSpec at hs
  split at hs
  · rename_i l z
    simp only [Option.some.injEq, Prod.mk.injEq] at hs
    obtain ⟨rfl, rfl⟩ := hs
    obtain ⟨⟨⟨l⟩⟩, rfl⟩ : ∃ b : ByteArray, b = l := ⟨l, rfl⟩
    simp only [sb_mk, allP, and_true] at hq ⊢
    obtain ⟨rfl, h⟩ := hq
    have hw := ls_walk l h
    by_cases hz : lasG l l.length = -1
    · rw [hz] at hw ⊢
      obtain ⟨hh, p, e, hp⟩ := lsm1_all l 0 h
      exact ⟨_, _, _, _, lpBy_cons lpBy_nil List.nodup_nil hw, e, hp⟩
    · have e1 : lsX (lasG l l.length) = .ret := if_neg hz
      have e2 : lsY (lasG l l.length) = lsR (lasG l l.length) := if_neg hz
      rw [e1, e2] at hw
      obtain ⟨hh, p, e, hp⟩ := lsm2_all l (lasG l l.length) h
      exact ⟨_, _, _, _, lpBy_cons lpBy_nil List.nodup_nil hw, e, hp⟩
  · simp at hs

theorem lasG_is (l : List UInt8) : ∀ n, n ≤ l.length → (lasG l n = -1 ∧ ∀ c ∈ l.take n, c ≠ 45) ∨ ∃ m : Nat, lasG l n = m ∧ m < n ∧ l.getD m 0 = 45 ∧ ∀ c ∈ (l.take n).drop (m + 1), c ≠ 45
  | 0, _ => .inl ⟨rfl, by simp⟩
  | n + 1, h => by
    have ht := take_succ_getD l n 0 h
    unfold lasG
    by_cases hc : l.getD n 0 = 45
    · rw [if_pos hc]
      refine .inr ⟨n, rfl, by omega, hc, fun c hcm => ?_⟩
      rw [List.drop_of_length_le (by rw [List.length_take]; omega)] at hcm
      cases hcm
    · rw [if_neg hc]
      rcases lasG_is l n (by omega) with ⟨e, k⟩ | ⟨m, e, k1, k2, k3⟩
      · refine .inl ⟨e, fun c hcm => ?_⟩
        rw [ht, List.mem_append, List.mem_singleton] at hcm
        rcases hcm with hcm | rfl
        · exact k c hcm
        · exact hc
      · refine .inr ⟨m, e, by omega, k2, fun c hcm => ?_⟩
        rw [ht, List.drop_append_of_le_length (by rw [List.length_take]; omega), List.mem_append, List.mem_singleton] at hcm
        rcases hcm with hcm | rfl
        · exact k3 c hcm
        · exact hc

theorem cutD_las (l : List UInt8) : cutD l = (lasG l l.length).toNat := by
  rcases lasG_is l l.length (Nat.le_refl _) with ⟨e, k⟩ | ⟨m, e, k1, k2, k3⟩
  · rw [e]
    rw [List.take_length] at k
    exact cutG_none l 0 0 k
  · rw [e, Int.toNat_natCast]
    rw [List.take_length] at k3
    have hl : l = l.take m ++ 45 :: l.drop (m + 1) := by
      have := drop_cons l m k1
      rw [k2] at this
      rw [← this, List.take_append_drop]
    unfold cutD
    by_cases hm : m = 0
    · subst hm
      rw [hl]
      show cutG (l.drop 1) 1 (if (45 : UInt8) = 45 ∧ 1 ≤ 0 then 0 else 0) = 0
      rw [if_neg (by omega)]
      exact cutG_none _ 1 0 k3
    · have h := cutG_app (l.take m) (l.drop (m + 1)) 0 0 (by rw [List.length_take]; omega) k3
      rw [← hl] at h
      rw [h, List.length_take]
      omega

/-! How many signs stand ahead. -/
def ahN (N : List Nat) (i : Nat) : Nat := ((N.take i).filter fun z => decide (z ≤ N.getD i 0)).length
def ahC (N : List Nat) (i j : Nat) : Nat := (((N.take i).take j).filter fun z => decide (z ≤ N.getD i 0)).length

theorem ahC_succ (N : List Nat) (i j : Nat) (hj : j < i) (hi : i < N.length) : ahC N i (j + 1) = if N.getD j 0 ≤ N.getD i 0 then ahC N i j + 1 else ahC N i j := by
  have e : (N.take i).take (j + 1) = (N.take i).take j ++ [N.getD j 0] := by
    rw [List.take_take, List.take_take, Nat.min_eq_left (by omega), Nat.min_eq_left (by omega)]
    exact take_succ_getD N j 0 (by omega)
  unfold ahC
  rw [e, List.filter_append, List.length_append]
  by_cases h : N.getD j 0 ≤ N.getD i 0
  · rw [if_pos h, List.filter_cons_of_pos (by rw [decide_eq_true h])]; rfl
  · rw [if_neg h, List.filter_cons_of_neg (by rw [decide_eq_false h]; simp)]; rfl

def ahS (N : List Nat) (i n j : Nat) : St := ⟨frame 26 [(0, .fs 1 N.length (nats N)), (1, .c (.int .i64 i)), (5, .c (.int .i64 n)), (10, .fs 1 i (nats (N.take i))), (11, .c (.int .i64 i)), (12, .c (.int .i64 j))], []⟩
def ahR (n : Nat) : St := ⟨frame 26 [(5, .c (.int .i64 n))], []⟩

theorem ahA_all (N : List Nat) (i n j x y : Nat) (hj : j < i) (hi : i < N.length) (hc : x ≤ y) (hx : ((nats (N.take i)).drop j).headD .any = .c (.int .i64 x)) (hy : ((nats N).drop i).headD .any = .c (.int .i64 y)) (hl : N.length ≤ 255) (hn : n ≤ j) (h1 : (nats (N.take i)).length = i) (h2 : (nats N).length = N.length) : Round Ext0 Try.prog cl0 (lbody Try.prog 21 3) (ahS N i n j) (.normal) (ahS N i (n + 1) (j + 1)) := by
  refine ⟨⟨true, (bs [(13, true), (21, true)] ++ [(15, ⟨.c (.int .i64 x), none⟩), (20, ⟨.c (.int .i64 y), none⟩)])⟩, _, 60, ⟨[], [0, 1, 5, 10, 11, 12], []⟩, [decide ((↑j : Int) < ↑i) = true,
 (0 : Int) ≤ ↑j,
 (↑j : Int) < ↑i,
 (((0 : Nat) : Nat) < ((List.drop j (nats (List.take i N))).length)),
 avEq ((List.drop j (nats (List.take i N))).headD AV.any) ((AV.c ((Value.int .i64 ((↑x : Int)))))),
 (0 : Int) ≤ ↑i,
 (↑i : Int) < ↑N.length,
 (((0 : Nat) : Nat) < ((List.drop i (nats N)).length)),
 avEq ((List.drop i (nats N)).headD AV.any) ((AV.c ((Value.int .i64 ((↑y : Int)))))),
 decide ((↑x : Int) ≤ ↑y) = true,
 (IntKind.i64.min : Int) ≤ ↑n + 1,
 (↑n + 1 : Int) ≤ IntKind.i64.max,
 (IntKind.i64.min : Int) ≤ ↑j + 1,
 (↑j + 1 : Int) ≤ IntKind.i64.max], lpBy_nil, by decide, Eq.trans (b := some ((.normal : Exit), ⟨frame 26 [(0, (AV.fs 1 N.length (nats N))), (1, (AV.c ((Value.int .i64 ((↑i : Int)))))), (5, (AV.c ((Value.int .i64 ((↑n : Int) + (1 : Int)))))), (10, (AV.fs 1 i (nats (List.take i N)))), (11, (AV.c ((Value.int .i64 ((↑i : Int)))))), (12, (AV.c ((Value.int .i64 ((↑j : Int) + (1 : Int))))))], []⟩, _)) (by kernel_rfl) (congrArg (fun S : St => some ((.normal : Exit), S, _)) (by first | rfl | (simp (disch := omega) only [std, List.length_drop, h1, h2 , hx, hy]; first | done | rfl))), ?_⟩
  all_goals try simp (disch := omega) only [std, List.length_drop, h1, h2 , hx, hy]
  all_goals repeat' apply And.intro
  all_goals first | exact True.intro | omega | with_reducible rfl | with_reducible assumption | exact hx | exact hy | exact h1 | exact h2 | rfl


theorem ahB_all (N : List Nat) (i n j x y : Nat) (hj : j < i) (hi : i < N.length) (hc : ¬ x ≤ y) (hx : ((nats (N.take i)).drop j).headD .any = .c (.int .i64 x)) (hy : ((nats N).drop i).headD .any = .c (.int .i64 y)) (hl : N.length ≤ 255) (hn : n ≤ j) (h1 : (nats (N.take i)).length = i) (h2 : (nats N).length = N.length) : Round Ext0 Try.prog cl0 (lbody Try.prog 21 3) (ahS N i n j) (.normal) (ahS N i n (j + 1)) := by
  refine ⟨⟨true, (bs [(13, true), (21, false)] ++ [(15, ⟨.c (.int .i64 x), none⟩), (20, ⟨.c (.int .i64 y), none⟩)])⟩, _, 60, ⟨[], [0, 1, 5, 10, 11, 12], []⟩, [decide ((↑j : Int) < ↑i) = true,
 (0 : Int) ≤ ↑j,
 (↑j : Int) < ↑i,
 (((0 : Nat) : Nat) < ((List.drop j (nats (List.take i N))).length)),
 avEq ((List.drop j (nats (List.take i N))).headD AV.any) ((AV.c ((Value.int .i64 ((↑x : Int)))))),
 (0 : Int) ≤ ↑i,
 (↑i : Int) < ↑N.length,
 (((0 : Nat) : Nat) < ((List.drop i (nats N)).length)),
 avEq ((List.drop i (nats N)).headD AV.any) ((AV.c ((Value.int .i64 ((↑y : Int)))))),
 decide ((↑x : Int) ≤ ↑y) = false,
 (IntKind.i64.min : Int) ≤ ↑j + 1,
 (↑j + 1 : Int) ≤ IntKind.i64.max], lpBy_nil, by decide, Eq.trans (b := some ((.normal : Exit), ⟨frame 26 [(0, (AV.fs 1 N.length (nats N))), (1, (AV.c ((Value.int .i64 ((↑i : Int)))))), (5, (AV.c ((Value.int .i64 ((↑n : Int)))))), (10, (AV.fs 1 i (nats (List.take i N)))), (11, (AV.c ((Value.int .i64 ((↑i : Int)))))), (12, (AV.c ((Value.int .i64 ((↑j : Int) + (1 : Int))))))], []⟩, _)) (by kernel_rfl) (congrArg (fun S : St => some ((.normal : Exit), S, _)) (by first | rfl | (simp (disch := omega) only [std, List.length_drop, h1, h2 , hx, hy]; first | done | rfl))), ?_⟩
  all_goals try simp (disch := omega) only [std, List.length_drop, h1, h2 , hx, hy]
  all_goals repeat' apply And.intro
  all_goals first | exact True.intro | omega | with_reducible rfl | with_reducible assumption | exact hx | exact hy | exact h1 | exact h2 | rfl


theorem ahZ_all (N : List Nat) (i n j x y : Nat) (hj : j = i) (hi : i < N.length) (hl : N.length ≤ 255) (hn : n ≤ j) (h1 : (nats (N.take i)).length = i) (h2 : (nats N).length = N.length) : Round Ext0 Try.prog cl0 (lbody Try.prog 21 3) (ahS N i n j) (.exit 0) (ahR n) := by
  refine ⟨⟨true, (bs [(13, false)] ++ [(15, ⟨.c (.int .i64 x), none⟩), (20, ⟨.c (.int .i64 y), none⟩)])⟩, _, 60, ⟨[], [5], []⟩, [decide ((↑j : Int) < ↑i) = false], lpBy_nil, by decide, by kernel_rfl, ?_⟩
  all_goals try simp (disch := omega) only [std, List.length_drop, h1, h2]
  all_goals repeat' apply And.intro
  all_goals first | exact True.intro | omega | with_reducible rfl | with_reducible assumption | exact hj | exact h1 | exact h2 | rfl

theorem ah_walk (N : List Nat) (i : Nat) (hl : N.length ≤ 255) (hi : i < N.length) : Tri Ext0 Try.prog (.loop (lbody Try.prog 21 3)) (ahS N i 0 0) (.exit 0) (ahR (ahN N i)) := by
  have e1 : (nats (N.take i)).length = i := by rw [nats_length, List.length_take]; omega
  have hle : ∀ j, j ≤ i → ahC N i j ≤ j := fun j hj => by
    unfold ahC
    refine Nat.le_trans (List.length_filter_le _ _) ?_
    rw [List.length_take]; omega
  have hx : ∀ j, j < i → ((nats (N.take i)).drop j).headD .any = .c (.int .i64 (N.getD j 0 : Nat)) := fun j hj => by
    rw [nats_at _ j (by rw [List.length_take]; omega)]
    simp only [List.getD, List.getElem?_take_of_lt hj]
  have hend : ahC N i i = ahN N i := by unfold ahC ahN; rw [List.take_take, Nat.min_self]
  have h := loop_up mixed cl0_ok (b := lbody Try.prog 21 3) (fun j => ahS N i (ahC N i j) j) i (e := .exit 0) (R := ahR (ahN N i)) (by simp) (fun j hj => by
    rw [ahC_succ N i j hj hi]
    by_cases hc : N.getD j 0 ≤ N.getD i 0
    · rw [if_pos hc]
      exact ahA_all N i _ j _ _ hj hi hc (hx j hj) (nats_at N i hi) hl (hle j (by omega)) e1 (nats_length N)
    · rw [if_neg hc]
      exact ahB_all N i _ j _ _ hj hi hc (hx j hj) (nats_at N i hi) hl (hle j (by omega)) e1 (nats_length N)) (by
    rw [← hend]
    exact ahZ_all N i _ i 0 0 rfl hi hl (hle i (Nat.le_refl _)) e1 (nats_length N)) 0 (Nat.zero_le _)
  exact h

noncomputable def ahLp (N : List Nat) (i : Nat) : List (Nat × Lp) := [(3, ⟨lbody Try.prog 21 3, ⟨[], [0, 1, 5, 10, 11, 12], []⟩, ahS N i 0 0, .exit 0, ahR (ahN N i)⟩)]

theorem ahm_all (N : List Nat) (i : Nat) (hi : i < N.length) (hl : N.length ≤ 255) : ∃ (h : Hints) (p : List Prop), outcome Try.prog 21 (aBody Try.prog cl0 h (lpBy (ahLp N i)) 60 21 ([.fs 1 N.length (nats N), .c (.int .i64 i)]) ([])) = some (.c (.int .i64 (ahN N i)), p) ∧ allP p := by
  refine ⟨⟨true, ([(10, ⟨.fs 1 i (nats (N.take i)), none⟩)])⟩, [(0 : Int) ≤ 0,
 (0 : Int) ≤ ↑i,
 (↑i : Int) ≤ ↑N.length,
 avEq ((AV.fs 1 (i - Int.toNat (0 : Int)) (List.drop (Int.toNat (0 : Int)) (List.take i (nats N))))) ((AV.fs 1 i (nats (List.take i N)))),
 ((lbody Try.prog (21 : FuncId) (3 : Nat) : Go.Code)) = (lbody Try.prog (21 : FuncId) (3 : Nat)),
 ((ahS N i (0 : Nat) (0 : Nat) : Go.Proofs.Ytljgmgbjfjhjmaa.St)) = (ahS N i (0 : Nat) (0 : Nat))], Eq.trans (b := some ((AV.c ((Value.int .i64 ((↑(ahN N i) : Int))))), _)) (by kernel_rfl) (congrArg (fun r => some (r, _)) (by first | rfl | (simp (disch := omega) only [std, nats_take]; first | done | rfl))), ?_⟩
  all_goals try simp (disch := omega) only [std, nats_take]
  all_goals repeat' apply And.intro
  all_goals first | exact True.intro | omega | with_reducible rfl | with_reducible assumption | rfl

def ahSpec : Spec
  | [.fs s n l, .c (.int .i64 i)] => some (.c (.int .i64 (ahN (unnats l) i.toNat)), [s = 1, l = nats (unnats l), n = (unnats l).length, 0 ≤ i, i < n, n ≤ 255])
  | _ => none

theorem ahead_ok : SpecOK Try.prog 21 ahSpec := by
  refine spec_of mixed cl0_ok fun args r q hs hq => ?_
  unfold ahSpec at hs
  split at hs
  · rename_i s n l i
    simp only [Option.some.injEq, Prod.mk.injEq] at hs
    obtain ⟨rfl, rfl⟩ := hs
    obtain ⟨rfl, h2, h3, h4, h5, h6, _⟩ := hq
    generalize unnats l = N at *
    subst h2 h3
    obtain ⟨i, rfl⟩ : ∃ k : Nat, i = (k : Int) := ⟨i.toNat, by omega⟩
    rw [Int.toNat_natCast]
    obtain ⟨hh, p, e, hp⟩ := ahm_all N i (by omega) h6
    exact ⟨_, _, _, _, lpBy_cons lpBy_nil List.nodup_nil (ah_walk N i h6 (by omega)), e, hp⟩
  · simp at hs

/-! A number's letters. -/
def wrF : Heap := [some ⟨37, true, [.c (.pointer none), .c (.slice none 0 0)]⟩]
def wrWn (n : Nat) (s : List UInt8) : Heap := [some ⟨37, true, [.pt 0 0, .sl 1 0 n]⟩, some ⟨5, false, byts s⟩]
abbrev wrW (s : List UInt8) : Heap := wrWn s.length s
def wrVn (n : Nat) (s : List UInt8) : Heap := [some ⟨37, true, [.pt 0 0, .sl 2 0 n]⟩, none, some ⟨5, false, byts s⟩]
abbrev wrV (s : List UInt8) : Heap := wrVn s.length s
def wrS (d b j : Nat) (h : Heap) : St := ⟨frame 36 [(0, .pt 0 0), (1, .c (.int .i64 d)), (2, .c (.int .i64 b)), (6, .c (.int .i64 j))], h⟩
def wrR (h : Heap) : St := ⟨frame 36 [], h⟩
noncomputable def clWr : CallT := aCallH Try.prog (sgBy [(38, bndSpec)]) (hsgBy [(17, wbSpec)]) 500 8
theorem clWr_ok : CallOK Try.prog clWr := aCallH_ok mixed (sgBy_cons qbnd_ok sgBy_nil) (hsgBy_cons wb_ok hsgBy_nil) 500 8

theorem wrFA_all (d b t r q c j : Nat) (out : List UInt8) (x : UInt8) (hj : j < 40) (hb : b ≤ 100000) (ht : bnd j b = t) (t1 : 1 ≤ t) (t2 : t ≤ 26) (hdl : d ≤ 2147483647) (hol : out.length ≤ 100000) (hxl : x.toNat < 256) (hdg : digL.length = 36) (h1 : (byts out).take out.length ++ byts [x] = byts (out ++ [x])) (hd : d < t) (hx : (((digL.getD d 0).toNat : Nat) : Int) = (x.toNat : Nat)) (ho : out = []) : RoundK 1 Try.prog clWr (lbody Try.prog 22 2) (wrS d b j (wrF)) (.ret) (wrR (wrWn (out.length + 1) (out ++ [x]))) := by
  refine ⟨⟨true, (bs [(15, true)] ++ [(12, ⟨.c (.int .i64 t), none⟩)] ++ [(18, ⟨byteC x, none⟩)])⟩, _, 60, ⟨[], [], [0, 2]⟩, [(0 : Int) ≤ ↑j,
 (↑j : Int) ≤ 200000,
 (0 : Int) ≤ ↑b,
 (↑b : Int) ≤ 100000,
 (((↑(bnd j b) : Int) : Int)) = ((↑t : Int)),
 decide ((↑d : Int) < ↑t) = true,
 (0 : Int) ≤ ↑d,
 (↑d : Int) < ↑(36 : Nat),
 (((↑([(97 : UInt8), (98 : UInt8), (99 : UInt8), (100 : UInt8), (101 : UInt8), (102 : UInt8), (103 : UInt8), (104 : UInt8), (105 : UInt8), (106 : UInt8), (107 : UInt8), (108 : UInt8), (109 : UInt8), (110 : UInt8), (111 : UInt8), (112 : UInt8), (113 : UInt8), (114 : UInt8), (115 : UInt8), (116 : UInt8), (117 : UInt8), (118 : UInt8), (119 : UInt8), (120 : UInt8), (121 : UInt8), (122 : UInt8), (48 : UInt8), (49 : UInt8), (50 : UInt8), (51 : UInt8), (52 : UInt8), (53 : UInt8), (54 : UInt8), (55 : UInt8), (56 : UInt8), (57 : UInt8)].getD d 0).toNat : Int) : Int)) = ((↑x.toNat : Int)),
 (((0 : Int) : Int) ≤ ((↑x.toNat : Int))),
 (((↑x.toNat : Int) : Int) < ((256 : Int)))], lpBy_nilK, by decide, Eq.trans (b := some ((.ret : Exit), ⟨frame 36 [], [(.some ⟨37, true, [(AV.pt 0 0),
 (AV.sl 1 0 1)]⟩),
 (.some ⟨5, false, [(AV.c ((Value.int .u8 ((↑(UInt8.ofNat x.toNat).toNat : Int)))))]⟩)]⟩, _)) (by kernel_rfl) (congrArg (fun S : St => some ((.ret : Exit), S, _)) (by first | rfl | (simp (disch := omega) only [std, UInt8.ofNat_toNat, Int.toNat_natCast, List.length_append, List.length_singleton, hdg, ho, List.nil_append]; first | done | rfl))), ?_⟩
  all_goals try simp (disch := omega) only [std, UInt8.ofNat_toNat, Int.toNat_natCast, List.length_append, List.length_singleton, hdg, ho, List.nil_append]
  all_goals repeat' apply And.intro
  all_goals first | exact True.intro | omega | with_reducible rfl | with_reducible assumption | exact congrArg (fun z : Nat => (z : Int)) ht | (rw [hx]) | rfl | exact ht | exact hdg | exact h1 | exact hx | exact ho | rfl


theorem wrFB_all (d b t r q c j : Nat) (out : List UInt8) (x : UInt8) (hj : j < 40) (hb : b ≤ 100000) (ht : bnd j b = t) (t1 : 1 ≤ t) (t2 : t ≤ 26) (hdl : d ≤ 2147483647) (hol : out.length ≤ 100000) (hxl : x.toNat < 256) (hdg : digL.length = 36) (h1 : (byts out).take out.length ++ byts [x] = byts (out ++ [x])) (hd : ¬ d < t) (hr : ((d - t : Nat) : Int).tmod ((36 - t : Nat) : Int) = (r : Nat)) (hq : IntKind.i64.wrap (((d - t : Nat) : Int).tdiv ((36 - t : Nat) : Int)) = (q : Nat)) (hc : t + r = c) (hc36 : c < 36) (hx : (((digL.getD c 0).toNat : Nat) : Int) = (x.toNat : Nat)) (ho : out = []) : RoundK 1 Try.prog clWr (lbody Try.prog 22 2) (wrS d b j (wrF)) (.normal) (wrS q b (j + 1) (wrWn (out.length + 1) (out ++ [x]))) := by
  refine ⟨⟨true, (bs [(15, false)] ++ [(12, ⟨.c (.int .i64 t), none⟩)] ++ [(22, ⟨.c (.int .i64 (d - t : Nat)), none⟩), (27, ⟨.c (.int .i64 (36 - t : Nat)), none⟩), (28, ⟨.c (.int .i64 r), some []⟩), (29, ⟨.c (.int .i64 c), none⟩), (30, ⟨byteC x, none⟩), (34, ⟨.c (.int .i64 (36 - t : Nat)), none⟩), (35, ⟨.c (.int .i64 q), some []⟩)])⟩, _, 60, ⟨[], [0, 1, 2, 6], [0, 2]⟩, [(0 : Int) ≤ ↑j,
 (↑j : Int) ≤ 200000,
 (0 : Int) ≤ ↑b,
 (↑b : Int) ≤ 100000,
 (((↑(bnd j b) : Int) : Int)) = ((↑t : Int)),
 decide ((↑d : Int) < ↑t) = false,
 (IntKind.i64.min : Int) ≤ ↑d - ↑t,
 (↑d - ↑t : Int) ≤ IntKind.i64.max,
 (↑d - ↑t : Int) = ↑(d - t),
 (IntKind.i64.min : Int) ≤ 36 - ↑t,
 (36 - ↑t : Int) ≤ IntKind.i64.max,
 (36 - ↑t : Int) = ↑(36 - t),
 (↑((36 : Nat) - t) : Int) ≠ (0 : Int),
 (((↑(d - t) : Int).tmod (↑((36 : Nat) - t) : Int) : Int)) = ((↑r : Int)),
 ((([ck ((↑((36 : Nat) - t) : Int) ≠ (0 : Int))], AV.c (Value.int IntKind.i64 ((↑(d - t) : Int).tmod (↑((36 : Nat) - t) : Int))), Cmd.nop).snd.snd.cells : List AV)) = ([]),
 (IntKind.i64.min : Int) ≤ ↑t + ↑r,
 (↑t + ↑r : Int) ≤ IntKind.i64.max,
 (↑t + ↑r : Int) = ↑c,
 (0 : Int) ≤ ↑c,
 (↑c : Int) < ↑(36 : Nat),
 (((↑([(97 : UInt8), (98 : UInt8), (99 : UInt8), (100 : UInt8), (101 : UInt8), (102 : UInt8), (103 : UInt8), (104 : UInt8), (105 : UInt8), (106 : UInt8), (107 : UInt8), (108 : UInt8), (109 : UInt8), (110 : UInt8), (111 : UInt8), (112 : UInt8), (113 : UInt8), (114 : UInt8), (115 : UInt8), (116 : UInt8), (117 : UInt8), (118 : UInt8), (119 : UInt8), (120 : UInt8), (121 : UInt8), (122 : UInt8), (48 : UInt8), (49 : UInt8), (50 : UInt8), (51 : UInt8), (52 : UInt8), (53 : UInt8), (54 : UInt8), (55 : UInt8), (56 : UInt8), (57 : UInt8)].getD c 0).toNat : Int) : Int)) = ((↑x.toNat : Int)),
 (((0 : Int) : Int) ≤ ((↑x.toNat : Int))),
 (((↑x.toNat : Int) : Int) < ((256 : Int))),
 (IntKind.i64.min : Int) ≤ 36 - ↑t,
 (36 - ↑t : Int) ≤ IntKind.i64.max,
 (36 - ↑t : Int) = ↑(36 - t),
 (↑((36 : Nat) - t) : Int) ≠ (0 : Int),
 ((IntKind.i64.wrap ((↑(d - t) : Int).tdiv (↑((36 : Nat) - t) : Int)) : Int)) = ((↑q : Int)),
 ((([ck ((↑((36 : Nat) - t) : Int) ≠ (0 : Int))], AV.c (Value.int IntKind.i64 (IntKind.i64.wrap ((↑(d - t) : Int).tdiv (↑((36 : Nat) - t) : Int)))), Cmd.nop).snd.snd.cells : List AV)) = ([]),
 (IntKind.i64.min : Int) ≤ ↑j + 1,
 (↑j + 1 : Int) ≤ IntKind.i64.max], lpBy_nilK, by decide, Eq.trans (b := some ((.normal : Exit), ⟨frame 36 [(0, (AV.pt 0 0)), (1, (AV.c ((Value.int .i64 ((↑q : Int)))))), (2, (AV.c ((Value.int .i64 ((↑b : Int)))))), (6, (AV.c ((Value.int .i64 ((↑j : Int) + (1 : Int))))))], [(.some ⟨37, true, [(AV.pt 0 0),
 (AV.sl 1 0 1)]⟩),
 (.some ⟨5, false, [(AV.c ((Value.int .u8 ((↑(UInt8.ofNat x.toNat).toNat : Int)))))]⟩)]⟩, _)) (by kernel_rfl) (congrArg (fun S : St => some ((.normal : Exit), S, _)) (by first | rfl | (simp (disch := omega) only [std, UInt8.ofNat_toNat, Int.toNat_natCast, List.length_append, List.length_singleton, hdg, ho, List.nil_append]; first | done | rfl))), ?_⟩
  all_goals try simp (disch := omega) only [std, UInt8.ofNat_toNat, Int.toNat_natCast, List.length_append, List.length_singleton, hdg, ho, List.nil_append]
  all_goals repeat' apply And.intro
  all_goals first | exact True.intro | omega | with_reducible rfl | with_reducible assumption | exact congrArg (fun z : Nat => (z : Int)) ht | exact hq | exact hr | (rw [hx]) | rfl | exact ht | exact hdg | exact h1 | exact hr | exact hq | exact hc | exact hx | exact ho | rfl


theorem wrWA_all (d b t r q c j : Nat) (out : List UInt8) (x : UInt8) (hj : j < 40) (hb : b ≤ 100000) (ht : bnd j b = t) (t1 : 1 ≤ t) (t2 : t ≤ 26) (hdl : d ≤ 2147483647) (hol : out.length ≤ 100000) (hxl : x.toNat < 256) (hdg : digL.length = 36) (h1 : (byts out).take out.length ++ byts [x] = byts (out ++ [x])) (hd : d < t) (hx : (((digL.getD d 0).toNat : Nat) : Int) = (x.toNat : Nat)) (h2 : (byts out).length = out.length) : RoundK 1 Try.prog clWr (lbody Try.prog 22 2) (wrS d b j (wrW out)) (.ret) (wrR (wrWn (out.length + 1) (out ++ [x]))) := by
  refine ⟨⟨true, (bs [(15, true)] ++ [(12, ⟨.c (.int .i64 t), none⟩)] ++ [(18, ⟨byteC x, none⟩)])⟩, _, 60, ⟨[], [], [0, 3]⟩, [(0 : Int) ≤ ↑j,
 (↑j : Int) ≤ 200000,
 (0 : Int) ≤ ↑b,
 (↑b : Int) ≤ 100000,
 (((↑(bnd j b) : Int) : Int)) = ((↑t : Int)),
 decide ((↑d : Int) < ↑t) = true,
 (0 : Int) ≤ ↑d,
 (↑d : Int) < ↑(36 : Nat),
 (((↑([(97 : UInt8), (98 : UInt8), (99 : UInt8), (100 : UInt8), (101 : UInt8), (102 : UInt8), (103 : UInt8), (104 : UInt8), (105 : UInt8), (106 : UInt8), (107 : UInt8), (108 : UInt8), (109 : UInt8), (110 : UInt8), (111 : UInt8), (112 : UInt8), (113 : UInt8), (114 : UInt8), (115 : UInt8), (116 : UInt8), (117 : UInt8), (118 : UInt8), (119 : UInt8), (120 : UInt8), (121 : UInt8), (122 : UInt8), (48 : UInt8), (49 : UInt8), (50 : UInt8), (51 : UInt8), (52 : UInt8), (53 : UInt8), (54 : UInt8), (55 : UInt8), (56 : UInt8), (57 : UInt8)].getD d 0).toNat : Int) : Int)) = ((↑x.toNat : Int)),
 (((0 : Int) : Int) ≤ ((↑x.toNat : Int))),
 (((↑x.toNat : Int) : Int) < ((256 : Int))),
 ((out.length : Nat) ≤ ((byts out).length)),
 ((out.length + (1 : Nat) : Nat) ≤ ((140737488355328 : Nat)))], lpBy_nilK, by decide, Eq.trans (b := some ((.ret : Exit), ⟨frame 36 [], [(.some ⟨37, true, [(AV.pt 0 0),
 (AV.sl 1 0 (out.length + (1 : Nat)))]⟩),
 (.some ⟨5, false, (List.take out.length (byts out) ++ byts [UInt8.ofNat x.toNat])⟩)]⟩, _)) (by kernel_rfl) (congrArg (fun S : St => some ((.ret : Exit), S, _)) (by first | rfl | (simp (disch := omega) only [std, UInt8.ofNat_toNat, Int.toNat_natCast, List.length_append, List.length_singleton, hdg, h1, h2]; first | done | rfl))), ?_⟩
  all_goals try simp (disch := omega) only [std, UInt8.ofNat_toNat, Int.toNat_natCast, List.length_append, List.length_singleton, hdg, h1, h2]
  all_goals repeat' apply And.intro
  all_goals first | exact True.intro | omega | with_reducible rfl | with_reducible assumption | exact congrArg (fun z : Nat => (z : Int)) ht | (rw [hx]) | rfl | exact ht | exact hdg | exact h1 | exact hx | exact h2 | rfl


theorem wrWB_all (d b t r q c j : Nat) (out : List UInt8) (x : UInt8) (hj : j < 40) (hb : b ≤ 100000) (ht : bnd j b = t) (t1 : 1 ≤ t) (t2 : t ≤ 26) (hdl : d ≤ 2147483647) (hol : out.length ≤ 100000) (hxl : x.toNat < 256) (hdg : digL.length = 36) (h1 : (byts out).take out.length ++ byts [x] = byts (out ++ [x])) (hd : ¬ d < t) (hr : ((d - t : Nat) : Int).tmod ((36 - t : Nat) : Int) = (r : Nat)) (hq : IntKind.i64.wrap (((d - t : Nat) : Int).tdiv ((36 - t : Nat) : Int)) = (q : Nat)) (hc : t + r = c) (hc36 : c < 36) (hx : (((digL.getD c 0).toNat : Nat) : Int) = (x.toNat : Nat)) (h2 : (byts out).length = out.length) : RoundK 1 Try.prog clWr (lbody Try.prog 22 2) (wrS d b j (wrW out)) (.normal) (wrS q b (j + 1) (wrWn (out.length + 1) (out ++ [x]))) := by
  refine ⟨⟨true, (bs [(15, false)] ++ [(12, ⟨.c (.int .i64 t), none⟩)] ++ [(22, ⟨.c (.int .i64 (d - t : Nat)), none⟩), (27, ⟨.c (.int .i64 (36 - t : Nat)), none⟩), (28, ⟨.c (.int .i64 r), some []⟩), (29, ⟨.c (.int .i64 c), none⟩), (30, ⟨byteC x, none⟩), (34, ⟨.c (.int .i64 (36 - t : Nat)), none⟩), (35, ⟨.c (.int .i64 q), some []⟩)])⟩, _, 60, ⟨[], [0, 1, 2, 6], [0, 3]⟩, [(0 : Int) ≤ ↑j,
 (↑j : Int) ≤ 200000,
 (0 : Int) ≤ ↑b,
 (↑b : Int) ≤ 100000,
 (((↑(bnd j b) : Int) : Int)) = ((↑t : Int)),
 decide ((↑d : Int) < ↑t) = false,
 (IntKind.i64.min : Int) ≤ ↑d - ↑t,
 (↑d - ↑t : Int) ≤ IntKind.i64.max,
 (↑d - ↑t : Int) = ↑(d - t),
 (IntKind.i64.min : Int) ≤ 36 - ↑t,
 (36 - ↑t : Int) ≤ IntKind.i64.max,
 (36 - ↑t : Int) = ↑(36 - t),
 (↑((36 : Nat) - t) : Int) ≠ (0 : Int),
 (((↑(d - t) : Int).tmod (↑((36 : Nat) - t) : Int) : Int)) = ((↑r : Int)),
 ((([ck ((↑((36 : Nat) - t) : Int) ≠ (0 : Int))], AV.c (Value.int IntKind.i64 ((↑(d - t) : Int).tmod (↑((36 : Nat) - t) : Int))), Cmd.nop).snd.snd.cells : List AV)) = ([]),
 (IntKind.i64.min : Int) ≤ ↑t + ↑r,
 (↑t + ↑r : Int) ≤ IntKind.i64.max,
 (↑t + ↑r : Int) = ↑c,
 (0 : Int) ≤ ↑c,
 (↑c : Int) < ↑(36 : Nat),
 (((↑([(97 : UInt8), (98 : UInt8), (99 : UInt8), (100 : UInt8), (101 : UInt8), (102 : UInt8), (103 : UInt8), (104 : UInt8), (105 : UInt8), (106 : UInt8), (107 : UInt8), (108 : UInt8), (109 : UInt8), (110 : UInt8), (111 : UInt8), (112 : UInt8), (113 : UInt8), (114 : UInt8), (115 : UInt8), (116 : UInt8), (117 : UInt8), (118 : UInt8), (119 : UInt8), (120 : UInt8), (121 : UInt8), (122 : UInt8), (48 : UInt8), (49 : UInt8), (50 : UInt8), (51 : UInt8), (52 : UInt8), (53 : UInt8), (54 : UInt8), (55 : UInt8), (56 : UInt8), (57 : UInt8)].getD c 0).toNat : Int) : Int)) = ((↑x.toNat : Int)),
 (((0 : Int) : Int) ≤ ((↑x.toNat : Int))),
 (((↑x.toNat : Int) : Int) < ((256 : Int))),
 ((out.length : Nat) ≤ ((byts out).length)),
 ((out.length + (1 : Nat) : Nat) ≤ ((140737488355328 : Nat))),
 (IntKind.i64.min : Int) ≤ 36 - ↑t,
 (36 - ↑t : Int) ≤ IntKind.i64.max,
 (36 - ↑t : Int) = ↑(36 - t),
 (↑((36 : Nat) - t) : Int) ≠ (0 : Int),
 ((IntKind.i64.wrap ((↑(d - t) : Int).tdiv (↑((36 : Nat) - t) : Int)) : Int)) = ((↑q : Int)),
 ((([ck ((↑((36 : Nat) - t) : Int) ≠ (0 : Int))], AV.c (Value.int IntKind.i64 (IntKind.i64.wrap ((↑(d - t) : Int).tdiv (↑((36 : Nat) - t) : Int)))), Cmd.nop).snd.snd.cells : List AV)) = ([]),
 (IntKind.i64.min : Int) ≤ ↑j + 1,
 (↑j + 1 : Int) ≤ IntKind.i64.max], lpBy_nilK, by decide, Eq.trans (b := some ((.normal : Exit), ⟨frame 36 [(0, (AV.pt 0 0)), (1, (AV.c ((Value.int .i64 ((↑q : Int)))))), (2, (AV.c ((Value.int .i64 ((↑b : Int)))))), (6, (AV.c ((Value.int .i64 ((↑j : Int) + (1 : Int))))))], [(.some ⟨37, true, [(AV.pt 0 0),
 (AV.sl 1 0 (out.length + (1 : Nat)))]⟩),
 (.some ⟨5, false, (List.take out.length (byts out) ++ byts [UInt8.ofNat x.toNat])⟩)]⟩, _)) (by kernel_rfl) (congrArg (fun S : St => some ((.normal : Exit), S, _)) (by first | rfl | (simp (disch := omega) only [std, UInt8.ofNat_toNat, Int.toNat_natCast, List.length_append, List.length_singleton, hdg, h1, h2]; first | done | rfl))), ?_⟩
  all_goals try simp (disch := omega) only [std, UInt8.ofNat_toNat, Int.toNat_natCast, List.length_append, List.length_singleton, hdg, h1, h2]
  all_goals repeat' apply And.intro
  all_goals first | exact True.intro | omega | with_reducible rfl | with_reducible assumption | exact congrArg (fun z : Nat => (z : Int)) ht | exact hq | exact hr | (rw [hx]) | rfl | exact ht | exact hdg | exact h1 | exact hr | exact hq | exact hc | exact hx | exact h2 | rfl


theorem wrUA_all (d b t r q c j : Nat) (out : List UInt8) (x : UInt8) (hj : j < 40) (hb : b ≤ 100000) (ht : bnd j b = t) (t1 : 1 ≤ t) (t2 : t ≤ 26) (hdl : d ≤ 2147483647) (hol : out.length ≤ 100000) (hxl : x.toNat < 256) (hdg : digL.length = 36) (h1 : (byts out).take out.length ++ byts [x] = byts (out ++ [x])) (hd : d < t) (hx : (((digL.getD d 0).toNat : Nat) : Int) = (x.toNat : Nat)) (h2 : (byts out).length = out.length) : RoundK 2 Try.prog clWr (lbody Try.prog 22 2) (wrS d b j (wrW out)) (.ret) (wrR (wrVn (out.length + 1) (out ++ [x]))) := by
  refine ⟨⟨true, (bs [(15, true)] ++ [(12, ⟨.c (.int .i64 t), none⟩)] ++ [(18, ⟨byteC x, none⟩)])⟩, _, 60, ⟨[], [], [0, 1, 3]⟩, [(0 : Int) ≤ ↑j,
 (↑j : Int) ≤ 200000,
 (0 : Int) ≤ ↑b,
 (↑b : Int) ≤ 100000,
 (((↑(bnd j b) : Int) : Int)) = ((↑t : Int)),
 decide ((↑d : Int) < ↑t) = true,
 (0 : Int) ≤ ↑d,
 (↑d : Int) < ↑(36 : Nat),
 (((↑([(97 : UInt8), (98 : UInt8), (99 : UInt8), (100 : UInt8), (101 : UInt8), (102 : UInt8), (103 : UInt8), (104 : UInt8), (105 : UInt8), (106 : UInt8), (107 : UInt8), (108 : UInt8), (109 : UInt8), (110 : UInt8), (111 : UInt8), (112 : UInt8), (113 : UInt8), (114 : UInt8), (115 : UInt8), (116 : UInt8), (117 : UInt8), (118 : UInt8), (119 : UInt8), (120 : UInt8), (121 : UInt8), (122 : UInt8), (48 : UInt8), (49 : UInt8), (50 : UInt8), (51 : UInt8), (52 : UInt8), (53 : UInt8), (54 : UInt8), (55 : UInt8), (56 : UInt8), (57 : UInt8)].getD d 0).toNat : Int) : Int)) = ((↑x.toNat : Int)),
 (((0 : Int) : Int) ≤ ((↑x.toNat : Int))),
 (((↑x.toNat : Int) : Int) < ((256 : Int))),
 ((out.length : Nat) ≤ ((byts out).length)),
 ((out.length + (1 : Nat) : Nat) ≤ ((140737488355328 : Nat)))], lpBy_nilK, by decide, Eq.trans (b := some ((.ret : Exit), ⟨frame 36 [], [(.some ⟨37, true, [(AV.pt 0 0),
 (AV.sl 2 0 (out.length + (1 : Nat)))]⟩),
 .none,
 (.some ⟨5, false, (List.take out.length (byts out) ++ byts [UInt8.ofNat x.toNat])⟩)]⟩, _)) (by kernel_rfl) (congrArg (fun S : St => some ((.ret : Exit), S, _)) (by first | rfl | (simp (disch := omega) only [std, UInt8.ofNat_toNat, Int.toNat_natCast, List.length_append, List.length_singleton, hdg, h1, h2]; first | done | rfl))), ?_⟩
  all_goals try simp (disch := omega) only [std, UInt8.ofNat_toNat, Int.toNat_natCast, List.length_append, List.length_singleton, hdg, h1, h2]
  all_goals repeat' apply And.intro
  all_goals first | exact True.intro | omega | with_reducible rfl | with_reducible assumption | exact congrArg (fun z : Nat => (z : Int)) ht | (rw [hx]) | rfl | exact ht | exact hdg | exact h1 | exact hx | exact h2 | rfl


theorem wrUB_all (d b t r q c j : Nat) (out : List UInt8) (x : UInt8) (hj : j < 40) (hb : b ≤ 100000) (ht : bnd j b = t) (t1 : 1 ≤ t) (t2 : t ≤ 26) (hdl : d ≤ 2147483647) (hol : out.length ≤ 100000) (hxl : x.toNat < 256) (hdg : digL.length = 36) (h1 : (byts out).take out.length ++ byts [x] = byts (out ++ [x])) (hd : ¬ d < t) (hr : ((d - t : Nat) : Int).tmod ((36 - t : Nat) : Int) = (r : Nat)) (hq : IntKind.i64.wrap (((d - t : Nat) : Int).tdiv ((36 - t : Nat) : Int)) = (q : Nat)) (hc : t + r = c) (hc36 : c < 36) (hx : (((digL.getD c 0).toNat : Nat) : Int) = (x.toNat : Nat)) (h2 : (byts out).length = out.length) : RoundK 2 Try.prog clWr (lbody Try.prog 22 2) (wrS d b j (wrW out)) (.normal) (wrS q b (j + 1) (wrVn (out.length + 1) (out ++ [x]))) := by
  refine ⟨⟨true, (bs [(15, false)] ++ [(12, ⟨.c (.int .i64 t), none⟩)] ++ [(22, ⟨.c (.int .i64 (d - t : Nat)), none⟩), (27, ⟨.c (.int .i64 (36 - t : Nat)), none⟩), (28, ⟨.c (.int .i64 r), some []⟩), (29, ⟨.c (.int .i64 c), none⟩), (30, ⟨byteC x, none⟩), (34, ⟨.c (.int .i64 (36 - t : Nat)), none⟩), (35, ⟨.c (.int .i64 q), some []⟩)])⟩, _, 60, ⟨[], [0, 1, 2, 6], [0, 1, 3]⟩, [(0 : Int) ≤ ↑j,
 (↑j : Int) ≤ 200000,
 (0 : Int) ≤ ↑b,
 (↑b : Int) ≤ 100000,
 (((↑(bnd j b) : Int) : Int)) = ((↑t : Int)),
 decide ((↑d : Int) < ↑t) = false,
 (IntKind.i64.min : Int) ≤ ↑d - ↑t,
 (↑d - ↑t : Int) ≤ IntKind.i64.max,
 (↑d - ↑t : Int) = ↑(d - t),
 (IntKind.i64.min : Int) ≤ 36 - ↑t,
 (36 - ↑t : Int) ≤ IntKind.i64.max,
 (36 - ↑t : Int) = ↑(36 - t),
 (↑((36 : Nat) - t) : Int) ≠ (0 : Int),
 (((↑(d - t) : Int).tmod (↑((36 : Nat) - t) : Int) : Int)) = ((↑r : Int)),
 ((([ck ((↑((36 : Nat) - t) : Int) ≠ (0 : Int))], AV.c (Value.int IntKind.i64 ((↑(d - t) : Int).tmod (↑((36 : Nat) - t) : Int))), Cmd.nop).snd.snd.cells : List AV)) = ([]),
 (IntKind.i64.min : Int) ≤ ↑t + ↑r,
 (↑t + ↑r : Int) ≤ IntKind.i64.max,
 (↑t + ↑r : Int) = ↑c,
 (0 : Int) ≤ ↑c,
 (↑c : Int) < ↑(36 : Nat),
 (((↑([(97 : UInt8), (98 : UInt8), (99 : UInt8), (100 : UInt8), (101 : UInt8), (102 : UInt8), (103 : UInt8), (104 : UInt8), (105 : UInt8), (106 : UInt8), (107 : UInt8), (108 : UInt8), (109 : UInt8), (110 : UInt8), (111 : UInt8), (112 : UInt8), (113 : UInt8), (114 : UInt8), (115 : UInt8), (116 : UInt8), (117 : UInt8), (118 : UInt8), (119 : UInt8), (120 : UInt8), (121 : UInt8), (122 : UInt8), (48 : UInt8), (49 : UInt8), (50 : UInt8), (51 : UInt8), (52 : UInt8), (53 : UInt8), (54 : UInt8), (55 : UInt8), (56 : UInt8), (57 : UInt8)].getD c 0).toNat : Int) : Int)) = ((↑x.toNat : Int)),
 (((0 : Int) : Int) ≤ ((↑x.toNat : Int))),
 (((↑x.toNat : Int) : Int) < ((256 : Int))),
 ((out.length : Nat) ≤ ((byts out).length)),
 ((out.length + (1 : Nat) : Nat) ≤ ((140737488355328 : Nat))),
 (IntKind.i64.min : Int) ≤ 36 - ↑t,
 (36 - ↑t : Int) ≤ IntKind.i64.max,
 (36 - ↑t : Int) = ↑(36 - t),
 (↑((36 : Nat) - t) : Int) ≠ (0 : Int),
 ((IntKind.i64.wrap ((↑(d - t) : Int).tdiv (↑((36 : Nat) - t) : Int)) : Int)) = ((↑q : Int)),
 ((([ck ((↑((36 : Nat) - t) : Int) ≠ (0 : Int))], AV.c (Value.int IntKind.i64 (IntKind.i64.wrap ((↑(d - t) : Int).tdiv (↑((36 : Nat) - t) : Int)))), Cmd.nop).snd.snd.cells : List AV)) = ([]),
 (IntKind.i64.min : Int) ≤ ↑j + 1,
 (↑j + 1 : Int) ≤ IntKind.i64.max], lpBy_nilK, by decide, Eq.trans (b := some ((.normal : Exit), ⟨frame 36 [(0, (AV.pt 0 0)), (1, (AV.c ((Value.int .i64 ((↑q : Int)))))), (2, (AV.c ((Value.int .i64 ((↑b : Int)))))), (6, (AV.c ((Value.int .i64 ((↑j : Int) + (1 : Int))))))], [(.some ⟨37, true, [(AV.pt 0 0),
 (AV.sl 2 0 (out.length + (1 : Nat)))]⟩),
 .none,
 (.some ⟨5, false, (List.take out.length (byts out) ++ byts [UInt8.ofNat x.toNat])⟩)]⟩, _)) (by kernel_rfl) (congrArg (fun S : St => some ((.normal : Exit), S, _)) (by first | rfl | (simp (disch := omega) only [std, UInt8.ofNat_toNat, Int.toNat_natCast, List.length_append, List.length_singleton, hdg, h1, h2]; first | done | rfl))), ?_⟩
  all_goals try simp (disch := omega) only [std, UInt8.ofNat_toNat, Int.toNat_natCast, List.length_append, List.length_singleton, hdg, h1, h2]
  all_goals repeat' apply And.intro
  all_goals first | exact True.intro | omega | with_reducible rfl | with_reducible assumption | exact congrArg (fun z : Nat => (z : Int)) ht | exact hq | exact hr | (rw [hx]) | rfl | exact ht | exact hdg | exact h1 | exact hr | exact hq | exact hc | exact hx | exact h2 | rfl


theorem wrVA_all (d b t r q c j : Nat) (out : List UInt8) (x : UInt8) (hj : j < 40) (hb : b ≤ 100000) (ht : bnd j b = t) (t1 : 1 ≤ t) (t2 : t ≤ 26) (hdl : d ≤ 2147483647) (hol : out.length ≤ 100000) (hxl : x.toNat < 256) (hdg : digL.length = 36) (h1 : (byts out).take out.length ++ byts [x] = byts (out ++ [x])) (hd : d < t) (hx : (((digL.getD d 0).toNat : Nat) : Int) = (x.toNat : Nat)) (h2 : (byts out).length = out.length) : RoundK 2 Try.prog clWr (lbody Try.prog 22 2) (wrS d b j (wrV out)) (.ret) (wrR (wrVn (out.length + 1) (out ++ [x]))) := by
  refine ⟨⟨true, (bs [(15, true)] ++ [(12, ⟨.c (.int .i64 t), none⟩)] ++ [(18, ⟨byteC x, none⟩)])⟩, _, 60, ⟨[], [], [0, 1, 4]⟩, [(0 : Int) ≤ ↑j,
 (↑j : Int) ≤ 200000,
 (0 : Int) ≤ ↑b,
 (↑b : Int) ≤ 100000,
 (((↑(bnd j b) : Int) : Int)) = ((↑t : Int)),
 decide ((↑d : Int) < ↑t) = true,
 (0 : Int) ≤ ↑d,
 (↑d : Int) < ↑(36 : Nat),
 (((↑([(97 : UInt8), (98 : UInt8), (99 : UInt8), (100 : UInt8), (101 : UInt8), (102 : UInt8), (103 : UInt8), (104 : UInt8), (105 : UInt8), (106 : UInt8), (107 : UInt8), (108 : UInt8), (109 : UInt8), (110 : UInt8), (111 : UInt8), (112 : UInt8), (113 : UInt8), (114 : UInt8), (115 : UInt8), (116 : UInt8), (117 : UInt8), (118 : UInt8), (119 : UInt8), (120 : UInt8), (121 : UInt8), (122 : UInt8), (48 : UInt8), (49 : UInt8), (50 : UInt8), (51 : UInt8), (52 : UInt8), (53 : UInt8), (54 : UInt8), (55 : UInt8), (56 : UInt8), (57 : UInt8)].getD d 0).toNat : Int) : Int)) = ((↑x.toNat : Int)),
 (((0 : Int) : Int) ≤ ((↑x.toNat : Int))),
 (((↑x.toNat : Int) : Int) < ((256 : Int))),
 ((out.length : Nat) ≤ ((byts out).length)),
 ((out.length + (1 : Nat) : Nat) ≤ ((140737488355328 : Nat)))], lpBy_nilK, by decide, Eq.trans (b := some ((.ret : Exit), ⟨frame 36 [], [(.some ⟨37, true, [(AV.pt 0 0),
 (AV.sl 2 0 (out.length + (1 : Nat)))]⟩),
 .none,
 (.some ⟨5, false, (List.take out.length (byts out) ++ byts [UInt8.ofNat x.toNat])⟩)]⟩, _)) (by kernel_rfl) (congrArg (fun S : St => some ((.ret : Exit), S, _)) (by first | rfl | (simp (disch := omega) only [std, UInt8.ofNat_toNat, Int.toNat_natCast, List.length_append, List.length_singleton, hdg, h1, h2]; first | done | rfl))), ?_⟩
  all_goals try simp (disch := omega) only [std, UInt8.ofNat_toNat, Int.toNat_natCast, List.length_append, List.length_singleton, hdg, h1, h2]
  all_goals repeat' apply And.intro
  all_goals first | exact True.intro | omega | with_reducible rfl | with_reducible assumption | exact congrArg (fun z : Nat => (z : Int)) ht | (rw [hx]) | rfl | exact ht | exact hdg | exact h1 | exact hx | exact h2 | rfl


theorem wrVB_all (d b t r q c j : Nat) (out : List UInt8) (x : UInt8) (hj : j < 40) (hb : b ≤ 100000) (ht : bnd j b = t) (t1 : 1 ≤ t) (t2 : t ≤ 26) (hdl : d ≤ 2147483647) (hol : out.length ≤ 100000) (hxl : x.toNat < 256) (hdg : digL.length = 36) (h1 : (byts out).take out.length ++ byts [x] = byts (out ++ [x])) (hd : ¬ d < t) (hr : ((d - t : Nat) : Int).tmod ((36 - t : Nat) : Int) = (r : Nat)) (hq : IntKind.i64.wrap (((d - t : Nat) : Int).tdiv ((36 - t : Nat) : Int)) = (q : Nat)) (hc : t + r = c) (hc36 : c < 36) (hx : (((digL.getD c 0).toNat : Nat) : Int) = (x.toNat : Nat)) (h2 : (byts out).length = out.length) : RoundK 2 Try.prog clWr (lbody Try.prog 22 2) (wrS d b j (wrV out)) (.normal) (wrS q b (j + 1) (wrVn (out.length + 1) (out ++ [x]))) := by
  refine ⟨⟨true, (bs [(15, false)] ++ [(12, ⟨.c (.int .i64 t), none⟩)] ++ [(22, ⟨.c (.int .i64 (d - t : Nat)), none⟩), (27, ⟨.c (.int .i64 (36 - t : Nat)), none⟩), (28, ⟨.c (.int .i64 r), some []⟩), (29, ⟨.c (.int .i64 c), none⟩), (30, ⟨byteC x, none⟩), (34, ⟨.c (.int .i64 (36 - t : Nat)), none⟩), (35, ⟨.c (.int .i64 q), some []⟩)])⟩, _, 60, ⟨[], [0, 1, 2, 6], [0, 1, 4]⟩, [(0 : Int) ≤ ↑j,
 (↑j : Int) ≤ 200000,
 (0 : Int) ≤ ↑b,
 (↑b : Int) ≤ 100000,
 (((↑(bnd j b) : Int) : Int)) = ((↑t : Int)),
 decide ((↑d : Int) < ↑t) = false,
 (IntKind.i64.min : Int) ≤ ↑d - ↑t,
 (↑d - ↑t : Int) ≤ IntKind.i64.max,
 (↑d - ↑t : Int) = ↑(d - t),
 (IntKind.i64.min : Int) ≤ 36 - ↑t,
 (36 - ↑t : Int) ≤ IntKind.i64.max,
 (36 - ↑t : Int) = ↑(36 - t),
 (↑((36 : Nat) - t) : Int) ≠ (0 : Int),
 (((↑(d - t) : Int).tmod (↑((36 : Nat) - t) : Int) : Int)) = ((↑r : Int)),
 ((([ck ((↑((36 : Nat) - t) : Int) ≠ (0 : Int))], AV.c (Value.int IntKind.i64 ((↑(d - t) : Int).tmod (↑((36 : Nat) - t) : Int))), Cmd.nop).snd.snd.cells : List AV)) = ([]),
 (IntKind.i64.min : Int) ≤ ↑t + ↑r,
 (↑t + ↑r : Int) ≤ IntKind.i64.max,
 (↑t + ↑r : Int) = ↑c,
 (0 : Int) ≤ ↑c,
 (↑c : Int) < ↑(36 : Nat),
 (((↑([(97 : UInt8), (98 : UInt8), (99 : UInt8), (100 : UInt8), (101 : UInt8), (102 : UInt8), (103 : UInt8), (104 : UInt8), (105 : UInt8), (106 : UInt8), (107 : UInt8), (108 : UInt8), (109 : UInt8), (110 : UInt8), (111 : UInt8), (112 : UInt8), (113 : UInt8), (114 : UInt8), (115 : UInt8), (116 : UInt8), (117 : UInt8), (118 : UInt8), (119 : UInt8), (120 : UInt8), (121 : UInt8), (122 : UInt8), (48 : UInt8), (49 : UInt8), (50 : UInt8), (51 : UInt8), (52 : UInt8), (53 : UInt8), (54 : UInt8), (55 : UInt8), (56 : UInt8), (57 : UInt8)].getD c 0).toNat : Int) : Int)) = ((↑x.toNat : Int)),
 (((0 : Int) : Int) ≤ ((↑x.toNat : Int))),
 (((↑x.toNat : Int) : Int) < ((256 : Int))),
 ((out.length : Nat) ≤ ((byts out).length)),
 ((out.length + (1 : Nat) : Nat) ≤ ((140737488355328 : Nat))),
 (IntKind.i64.min : Int) ≤ 36 - ↑t,
 (36 - ↑t : Int) ≤ IntKind.i64.max,
 (36 - ↑t : Int) = ↑(36 - t),
 (↑((36 : Nat) - t) : Int) ≠ (0 : Int),
 ((IntKind.i64.wrap ((↑(d - t) : Int).tdiv (↑((36 : Nat) - t) : Int)) : Int)) = ((↑q : Int)),
 ((([ck ((↑((36 : Nat) - t) : Int) ≠ (0 : Int))], AV.c (Value.int IntKind.i64 (IntKind.i64.wrap ((↑(d - t) : Int).tdiv (↑((36 : Nat) - t) : Int)))), Cmd.nop).snd.snd.cells : List AV)) = ([]),
 (IntKind.i64.min : Int) ≤ ↑j + 1,
 (↑j + 1 : Int) ≤ IntKind.i64.max], lpBy_nilK, by decide, Eq.trans (b := some ((.normal : Exit), ⟨frame 36 [(0, (AV.pt 0 0)), (1, (AV.c ((Value.int .i64 ((↑q : Int)))))), (2, (AV.c ((Value.int .i64 ((↑b : Int)))))), (6, (AV.c ((Value.int .i64 ((↑j : Int) + (1 : Int))))))], [(.some ⟨37, true, [(AV.pt 0 0),
 (AV.sl 2 0 (out.length + (1 : Nat)))]⟩),
 .none,
 (.some ⟨5, false, (List.take out.length (byts out) ++ byts [UInt8.ofNat x.toNat])⟩)]⟩, _)) (by kernel_rfl) (congrArg (fun S : St => some ((.normal : Exit), S, _)) (by first | rfl | (simp (disch := omega) only [std, UInt8.ofNat_toNat, Int.toNat_natCast, List.length_append, List.length_singleton, hdg, h1, h2]; first | done | rfl))), ?_⟩
  all_goals try simp (disch := omega) only [std, UInt8.ofNat_toNat, Int.toNat_natCast, List.length_append, List.length_singleton, hdg, h1, h2]
  all_goals repeat' apply And.intro
  all_goals first | exact True.intro | omega | with_reducible rfl | with_reducible assumption | exact congrArg (fun z : Nat => (z : Int)) ht | exact hq | exact hr | (rw [hx]) | rfl | exact ht | exact hdg | exact h1 | exact hr | exact hq | exact hc | exact hx | exact h2 | rfl

theorem nd01 : [0, 1].Nodup := by decide

theorem digL_get {d : Nat} (h : d < 36) : digL.getD d 0 = chr d := by
  have k : ∀ y : Fin 36, digL.getD y.val 0 = chr y.val := by decide +kernel
  exact k ⟨d, h⟩
theorem digL_int {d : Nat} (h : d < 36) : (((digL.getD d 0).toNat : Nat) : Int) = ((chr d).toNat : Nat) := by rw [digL_get h]

theorem byts_more (s : List UInt8) (x : UInt8) : (byts s).take s.length ++ byts [x] = byts (s ++ [x]) := by
  rw [List.take_of_length_le (by rw [byts_length]; exact Nat.le_refl _)]
  simp [byts]

/-- A walk over a builder that goes from one shape to the next. -/
theorem wr_any (k : Nat) (Pre : List UInt8 → Heap → Prop) (H : Nat → List UInt8 → Heap) (b d0 : Nat) (hb : b ≤ 100000) (hd0 : d0 ≤ 2147483647)
    (sA : ∀ (d t j : Nat) (out : List UInt8) (x : UInt8) (h : Heap), Pre out h → j < 40 → bnd j b = t → 1 ≤ t → t ≤ 26 → d ≤ 2147483647 → out.length ≤ 100000 → d < t → (((digL.getD d 0).toNat : Nat) : Int) = (x.toNat : Nat) → RoundK k Try.prog clWr (lbody Try.prog 22 2) (wrS d b j h) .ret (wrR (H (out.length + 1) (out ++ [x]))))
    (sB : ∀ (d t j r q c : Nat) (out : List UInt8) (x : UInt8) (h : Heap), Pre out h → j < 40 → bnd j b = t → 1 ≤ t → t ≤ 26 → d ≤ 2147483647 → out.length ≤ 100000 → ¬ d < t → ((d - t : Nat) : Int).tmod ((36 - t : Nat) : Int) = (r : Nat) → IntKind.i64.wrap (((d - t : Nat) : Int).tdiv ((36 - t : Nat) : Int)) = (q : Nat) → t + r = c → c < 36 → (((digL.getD c 0).toNat : Nat) : Int) = (x.toNat : Nat) → RoundK k Try.prog clWr (lbody Try.prog 22 2) (wrS d b j h) .normal (wrS q b (j + 1) (H (out.length + 1) (out ++ [x]))))
    (hP : ∀ out, Pre out (H out.length out)) (s0 : List UInt8) (h0 : Heap) (hs0 : Pre s0 h0) (hl0 : s0.length ≤ 90000) :
    Tri (ExtK k) Try.prog (.loop (lbody Try.prog 22 2)) (wrS d0 b 0 h0) .ret (wrR (H (s0 ++ leB b 40 0 d0).length (s0 ++ leB b 40 0 d0))) := by
  refine loop_invK mixed clWr_ok (fun x : Nat × List UInt8 × Nat × Heap => wrS x.1 b x.2.2.1 x.2.2.2) (fun x => Pre x.2.1 x.2.2.2 ∧ x.2.2.1 < 40 ∧ x.1 ≤ 2147483647 ∧ x.1 < 10 ^ (39 - x.2.2.1) ∧ x.2.1.length ≤ 90000 + x.2.2.1 ∧ x.2.1 ++ leB b (40 - x.2.2.1) x.2.2.1 x.1 = s0 ++ leB b 40 0 d0) (fun x => 40 - x.2.2.1) (fun x hx => ?_) (d0, s0, 0, h0) ⟨hs0, by simp, hd0, Nat.lt_of_le_of_lt hd0 (show 2147483647 < 10 ^ 39 by decide), hl0, rfl⟩
  obtain ⟨d, out, j, h⟩ := x
  obtain ⟨h0, h1, h2, h3, h4, h5⟩ := hx
  simp only at h0 h1 h2 h3 h4 h5 ⊢
  obtain ⟨t1, t2⟩ := bnd_bd j b
  obtain ⟨f, hf⟩ : ∃ f, 40 - j = f + 1 := ⟨39 - j, by omega⟩
  have hf' : 39 - j = f := by omega
  rw [hf, leB_succ] at h5
  rw [hf'] at h3
  have hsn : ∀ x : UInt8, (out ++ [x]).length = out.length + 1 := fun x => by rw [List.length_append]; rfl
  by_cases hd : d < bnd j b
  · rw [if_pos hd] at h5
    rw [← h5, hsn]
    exact .inr ⟨by simp, sA d (bnd j b) j out (chr d) h h0 h1 rfl t1 t2 h2 (by omega) hd (digL_int (by omega))⟩
  · rw [if_neg hd] at h5
    have hm : (d - bnd j b) % (36 - bnd j b) < 36 - bnd j b := Nat.mod_lt _ (by omega)
    obtain ⟨f, rfl⟩ : ∃ g, f = g + 1 := ⟨f - 1, by
      cases f with
      | zero => simp at h3; omega
      | succ f => omega⟩
    have hlt := quo_lt (m := 10 ^ f) t1 t2 (by rw [Nat.pow_succ] at h3; omega : d < 10 * 10 ^ f)
    have hq2 : (d - bnd j b) / (36 - bnd j b) ≤ d - bnd j b := Nat.div_le_self _ _
    have step := sB d (bnd j b) j ((d - bnd j b) % (36 - bnd j b)) _ _ out _ h h0 h1 rfl t1 t2 h2 (by omega) hd (tmNat _ _) (tdNat _ (by omega)) rfl (by omega) (digL_int (by omega))
    have hPn := hP (out ++ [chr (bnd j b + (d - bnd j b) % (36 - bnd j b))])
    rw [hsn] at hPn
    refine .inl ⟨((d - bnd j b) / (36 - bnd j b), out ++ [chr (bnd j b + (d - bnd j b) % (36 - bnd j b))], j + 1, H (out.length + 1) (out ++ [chr (bnd j b + (d - bnd j b) % (36 - bnd j b))])), ⟨hPn, by simp only; omega, by simp only; omega, by simp only; rw [show 39 - (j + 1) = f by omega]; exact hlt, by simp only [List.length_append, List.length_singleton]; omega, ?_⟩, by simp only; omega, step⟩
    simp only
    rw [← h5, show 40 - (j + 1) = f + 1 by omega, List.append_assoc]
    rfl

theorem wrF_walk (b d : Nat) (hb : b ≤ 100000) (hd : d ≤ 2147483647) : Tri (ExtK 1) Try.prog (.loop (lbody Try.prog 22 2)) (wrS d b 0 wrF) .ret (wrR (wrW (leB b 40 0 d))) := by
  refine wr_any 1 (fun out h => (out = [] ∧ h = wrF) ∨ h = wrW out) wrWn b d hb hd ?_ ?_ (fun out => .inr rfl) [] wrF (.inl ⟨rfl, rfl⟩) (Nat.zero_le _)
  · rintro d t j out x h hp h1 h2 h3 h4 h5 h6 h7 h8
    rcases hp with ⟨ho, rfl⟩ | rfl
    · have := wrFA_all d b t 0 0 0 j out x h1 hb h2 h3 h4 h5 h6 (UInt8.toNat_lt x) rfl (byts_more out x) h7 h8 ho
      subst ho
      exact this
    · exact wrWA_all d b t 0 0 0 j out x h1 hb h2 h3 h4 h5 h6 (UInt8.toNat_lt x) rfl (byts_more out x) h7 h8 (byts_length out)
  · rintro d t j r q c out x h hp h1 h2 h3 h4 h5 h6 h7 h8 h9 h10 h11 h12
    rcases hp with ⟨ho, rfl⟩ | rfl
    · have := wrFB_all d b t r q c j out x h1 hb h2 h3 h4 h5 h6 (UInt8.toNat_lt x) rfl (byts_more out x) h7 h8 h9 h10 h11 h12 ho
      subst ho
      exact this
    · exact wrWB_all d b t r q c j out x h1 hb h2 h3 h4 h5 h6 (UInt8.toNat_lt x) rfl (byts_more out x) h7 h8 h9 h10 h11 h12 (byts_length out)

theorem wrU_walk (b d : Nat) (hb : b ≤ 100000) (hd : d ≤ 2147483647) (s : List UInt8) (hs : s.length ≤ 90000) : Tri (ExtK 2) Try.prog (.loop (lbody Try.prog 22 2)) (wrS d b 0 (wrW s)) .ret (wrR (wrV (s ++ leB b 40 0 d))) := by
  refine wr_any 2 (fun out h => h = wrW out ∨ h = wrV out) wrVn b d hb hd ?_ ?_ (fun out => .inr rfl) s (wrW s) (.inl rfl) hs
  · rintro d t j out x h hp h1 h2 h3 h4 h5 h6 h7 h8
    rcases hp with rfl | rfl
    · exact wrUA_all d b t 0 0 0 j out x h1 hb h2 h3 h4 h5 h6 (UInt8.toNat_lt x) rfl (byts_more out x) h7 h8 (byts_length out)
    · exact wrVA_all d b t 0 0 0 j out x h1 hb h2 h3 h4 h5 h6 (UInt8.toNat_lt x) rfl (byts_more out x) h7 h8 (byts_length out)
  · rintro d t j r q c out x h hp h1 h2 h3 h4 h5 h6 h7 h8 h9 h10 h11 h12
    rcases hp with rfl | rfl
    · exact wrUB_all d b t r q c j out x h1 hb h2 h3 h4 h5 h6 (UInt8.toNat_lt x) rfl (byts_more out x) h7 h8 h9 h10 h11 h12 (byts_length out)
    · exact wrVB_all d b t r q c j out x h1 hb h2 h3 h4 h5 h6 (UInt8.toNat_lt x) rfl (byts_more out x) h7 h8 h9 h10 h11 h12 (byts_length out)

theorem wrmF_all (b d : Nat) (s : List UInt8)  : ∃ (h : Hints) (p : List Prop), outKill [] (aBody Try.prog clWr h (lpBy ([(2, ⟨lbody Try.prog 22 2, ⟨[], [0, 1, 2, 6], [0]⟩, wrS d b 0 (wrF), .ret, wrR (wrW (leB b 40 0 d))⟩)])) 60 22 ([.pt 0 0, .c (.int .i64 d), .c (.int .i64 b)]) (wrF)) = some (.tu [], wrW (leB b 40 0 d), p) ∧ allP p := by
  refine ⟨⟨true, bs []⟩, [((lbody Try.prog (22 : FuncId) (2 : Nat) : Go.Code)) = (lbody Try.prog (22 : FuncId) (2 : Nat)),
 ((wrS d b (0 : Nat) wrF : Go.Proofs.Ytljgmgbjfjhjmaa.St)) = (wrS d b (0 : Nat) wrF)], by kernel_rfl, ?_⟩
  all_goals try simp (disch := omega) only [std]
  all_goals repeat' apply And.intro
  all_goals first | exact True.intro | omega | with_reducible rfl | with_reducible assumption | rfl


theorem wrmU_all (b d : Nat) (s : List UInt8)  : ∃ (h : Hints) (p : List Prop), outKill [] (aBody Try.prog clWr h (lpBy ([(2, ⟨lbody Try.prog 22 2, ⟨[], [0, 1, 2, 6], [0, 1]⟩, wrS d b 0 (wrW s), .ret, wrR (wrV (s ++ leB b 40 0 d))⟩)])) 60 22 ([.pt 0 0, .c (.int .i64 d), .c (.int .i64 b)]) (wrW s)) = some (.tu [], wrV (s ++ leB b 40 0 d), p) ∧ allP p := by
  refine ⟨⟨true, bs []⟩, [((lbody Try.prog (22 : FuncId) (2 : Nat) : Go.Code)) = (lbody Try.prog (22 : FuncId) (2 : Nat)),
 ((wrS d b (0 : Nat) (wrW s) : Go.Proofs.Ytljgmgbjfjhjmaa.St)) = (wrS d b (0 : Nat) (wrW s))], by kernel_rfl, ?_⟩
  all_goals try simp (disch := omega) only [std]
  all_goals repeat' apply And.intro
  all_goals first | exact True.intro | omega | with_reducible rfl | with_reducible assumption | rfl

def wrSpec : HSpec
  | [.pt 0 0, .c (.int .i64 d), .c (.int .i64 b)], [some ⟨t, true, [.c (.pointer none), .c (.slice none 0 0)]⟩] => if t = 37 then
      some (.tu [], wrW (leB b.toNat 40 0 d.toNat), [0 ≤ d, d ≤ 2147483647, 0 ≤ b, b ≤ 100000]) else none
  | [.pt 0 0, .c (.int .i64 d), .c (.int .i64 b)], [some ⟨t, true, [.pt 0 0, .sl 1 0 n]⟩, some ⟨u, false, l⟩] => if t = 37 ∧ u = 5 then
      some (.tu [], wrV (unbyts l ++ leB b.toNat 40 0 d.toNat), [0 ≤ d, d ≤ 2147483647, 0 ≤ b, b ≤ 100000, l = byts (unbyts l), n = (unbyts l).length, n ≤ 90000]) else none
  | _, _ => none

theorem write_ok : HSpecOK Try.prog 22 wrSpec := by
  refine hspec_lp mixed clWr_ok fun args hp r hp' q hs hq => ?_
  unfold wrSpec at hs
  split at hs
  · rename_i d b t
    split at hs
    · rename_i ht
      subst ht
      simp only [Option.some.injEq, Prod.mk.injEq] at hs
      obtain ⟨rfl, rfl, rfl⟩ := hs
      obtain ⟨h0, h1, h2, h3, _⟩ := hq
      obtain ⟨d, rfl⟩ : ∃ k : Nat, d = (k : Int) := ⟨d.toNat, by omega⟩
      obtain ⟨b, rfl⟩ : ∃ k : Nat, b = (k : Int) := ⟨b.toNat, by omega⟩
      rw [Int.toNat_natCast, Int.toNat_natCast]
      obtain ⟨hh, p, e, hp⟩ := wrmF_all b d []
      exact ⟨_, _, _, _, _, lpBy_consK lpBy_nilK ⟨nd0, rfl⟩ (wrF_walk b d (by omega) (by omega)), e, hp⟩
    · simp at hs
  · rename_i d b t n u l
    split at hs
    · rename_i ht
      obtain ⟨rfl, rfl⟩ := ht
      simp only [Option.some.injEq, Prod.mk.injEq] at hs
      obtain ⟨rfl, rfl, rfl⟩ := hs
      obtain ⟨h0, h1, h2, h3, h4, h5, h6, _⟩ := hq
      obtain ⟨d, rfl⟩ : ∃ k : Nat, d = (k : Int) := ⟨d.toNat, by omega⟩
      obtain ⟨b, rfl⟩ : ∃ k : Nat, b = (k : Int) := ⟨b.toNat, by omega⟩
      rw [Int.toNat_natCast, Int.toNat_natCast]
      generalize unbyts l = s at *
      subst h4 h5
      obtain ⟨hh, p, e, hp⟩ := wrmU_all b d s
      exact ⟨_, _, _, _, _, lpBy_consK lpBy_nilK ⟨nd01, rfl⟩ (wrU_walk b d (by omega) (by omega) s h6), e, hp⟩
    · simp at hs
  · simp at hs

end Go.Proofs.Ytljgmgbjfjhjmaa
