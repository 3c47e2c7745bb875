/- Signs as letters: the document's own texts of rows. -/
import Derived.Test.YtljgmgbjfjhjmaaPnyG
import Derived.Test.YtljgmgbjfjhjmaaInts
namespace Go.Proofs.Ytljgmgbjfjhjmaa
open Go.RowKit Pny
set_option linter.unusedVariables false
set_option linter.unusedSimpArgs false

/-! How the bias goes on. -/
def wrB : List Nat → Nat → Nat → Bool → Nat × Bool
  | [], _, b, f => (b, f)
  | d :: r, n, b, f => wrB r (n + 1) (adp d (n + 1) f) false

theorem wrT_app : ∀ (A B : List Nat) (n b : Nat) (f : Bool), wrT (A ++ B) n b f = wrT A n b f ++ wrT B (n + A.length) (wrB A n b f).1 (wrB A n b f).2
  | [], B, n, b, f => rfl
  | d :: A, B, n, b, f => by
    show leB b 40 0 d ++ wrT (A ++ B) (n + 1) (adp d (n + 1) f) false = (leB b 40 0 d ++ wrT A (n + 1) (adp d (n + 1) f) false) ++ wrT B (n + (A.length + 1)) (wrB A (n + 1) (adp d (n + 1) f) false).1 (wrB A (n + 1) (adp d (n + 1) f) false).2
    rw [wrT_app A B (n + 1), List.append_assoc, show n + 1 + A.length = n + (A.length + 1) by omega]

theorem adp_any (d n : Nat) (f : Bool) : adp d n f ≤ 1000 := by
  obtain ⟨h1, h2, h3⟩ := adEnd_is 20 (adE d n f) 0
  rw [adp_eq]
  have := Nat.div_le_of_le_mul (m := 36 * (adEnd 20 (adE d n f) 0).1) (k := (adEnd 20 (adE d n f) 0).1 + 38) (n := 36) (by omega)
  omega

theorem leB_le (b : Nat) : ∀ (f j d : Nat), (leB b f j d).length ≤ f
  | 0, j, d => by simp [leB]
  | f + 1, j, d => by
    rw [leB_succ]
    split
    · simp
    · have := leB_le b f (j + 1) ((d - bnd j b) / (36 - bnd j b))
      simp only [List.length_cons]; omega

/-- What a row's signs c put behind a text: text, how many signs, bias, first, distance. -/
structure Wst where
  s : List UInt8
  n : Nat
  b : Nat
  f : Bool
  d : Nat

def scS (c z : Nat) (x : Wst) : Wst := if z < c then ⟨x.s, x.n, x.b, x.f, x.d + 1⟩ else if z = c then ⟨x.s ++ leB x.b 40 0 x.d, x.n + 1, adp x.d (x.n + 1) x.f, false, 0⟩ else x
def scT (c : Nat) : List Nat → Wst → Wst
  | [], x => x
  | z :: r, x => scT c r (scS c z x)

theorem scT_is (c : Nat) : ∀ (r : List Nat) (x : Wst), scT c r x = ⟨x.s ++ wrT (scanE c r x.n x.d).1 x.n x.b x.f, (scanE c r x.n x.d).2.1, (wrB (scanE c r x.n x.d).1 x.n x.b x.f).1, (wrB (scanE c r x.n x.d).1 x.n x.b x.f).2, (scanE c r x.n x.d).2.2⟩ ∧ (scanE c r x.n x.d).2.1 = x.n + (scanE c r x.n x.d).1.length
  | [], x => ⟨by show x = _; simp [scanE, wrT, wrB], by simp [scanE]⟩
  | z :: r, x => by
    unfold scT scS scanE
    split
    · exact scT_is c r _
    · split
      · obtain ⟨h1, h2⟩ := scT_is c r ⟨x.s ++ leB x.b 40 0 x.d, x.n + 1, adp x.d (x.n + 1) x.f, false, 0⟩
        refine ⟨?_, ?_⟩
        · rw [h1]
          simp only [Wst.mk.injEq]
          refine ⟨?_, trivial, rfl, rfl, trivial⟩
          rw [List.append_assoc]; rfl
        · simp only [List.length_cons] at h2 ⊢
          omega
      · exact scT_is c r x

theorem scT_snoc (c : Nat) : ∀ (a : List Nat) (z : Nat) (x : Wst), scT c (a ++ [z]) x = scS c z (scT c a x)
  | [], z, x => rfl
  | y :: a, z, x => scT_snoc c a z (scS c y x)

/-- Bounds. -/
structure Bd (x : Wst) (i : Nat) (n0 d0 : Nat) : Prop where
  hn : x.n ≤ n0 + i
  hd : x.d ≤ d0 + i
  hb : x.b ≤ 1000
  hs : x.s.length ≤ 300 + 40 * x.n

theorem scS_bd {c z i n0 d0 : Nat} {x : Wst} (h : Bd x i n0 d0) (hd0 : d0 + i ≤ 300000000) : Bd (scS c z x) (i + 1) n0 d0 := by
  obtain ⟨h1, h2, h3, h4⟩ := h
  unfold scS
  split
  · exact ⟨by simp only; omega, by simp only; omega, h3, h4⟩
  · split
    · have := leB_le x.b 40 0 x.d
      exact ⟨by simp only; omega, by simp only; omega, adp_any _ _ _, by simp only [List.length_append]; omega⟩
    · exact ⟨by omega, by omega, h3, h4⟩

theorem scT_bd {c n0 d0 : Nat} {x : Wst} : ∀ (a : List Nat) (k : Nat), Bd x k n0 d0 → d0 + (k + a.length) ≤ 300000000 → Bd (scT c a x) (k + a.length) n0 d0
  | [], k, h, _ => h
  | z :: a, k, h, hd => by
    simp only [List.length_cons] at hd ⊢
    have h2 := scS_bd (c := c) (z := z) h (by omega)
    have := scT_bd (x := scS c z x) (c := c) a (k + 1) h2 (by omega)
    rw [show k + (a.length + 1) = k + 1 + a.length by omega]
    exact this

/-! The signs c of a row. -/
noncomputable def clEn : CallT := aCall Try.prog (sgBy [(25, signISpec), (27, leSpec), (28, adSpec), (26, leastSpec)]) 500 8
theorem clEn_ok : CallOK Try.prog clEn := aCall_ok mixed (sgBy_cons rsg_ok (sgBy_cons rle_ok (sgBy_cons rad_ok (sgBy_cons rleast_ok sgBy_nil)))) 500 8

def en3 (N : List Nat) (c : Nat) (x : Wst) (i : Nat) : St := ⟨frame 100 [(0, .fs 1 N.length (nats N)), (4, .c (str x.s)), (5, .c (.int .i64 x.n)), (7, .c (.int .i64 x.b)), (8, .c (.int .i64 c)), (9, .c (.int .i64 x.d)), (10, .c (.bool x.f)), (12, .c (.int .i64 i))], []⟩
def en2 (N : List Nat) (c : Nat) (x : Wst) : St := ⟨frame 100 [(0, .fs 1 N.length (nats N)), (4, .c (str x.s)), (5, .c (.int .i64 x.n)), (7, .c (.int .i64 x.b)), (8, .c (.int .i64 c)), (9, .c (.int .i64 x.d)), (10, .c (.bool x.f))], []⟩

theorem eiA_all (N : List Nat) (c i z : Nat) (s w : List UInt8) (n b d b2 : Nat) (f : Bool) (hi : i < N.length) (hat : avEq (((nats N).drop i).headD .any) (.c (.int .i64 z))) (hz : z < c) (hl : N.length ≤ 255) (hc : c ≤ 1114112) (hn : n ≤ 600) (hd : d ≤ 300000000) (hb : b ≤ 1000) (hs : s.length ≤ 100000) (hwl : w.length ≤ 40) (hnl : (nats N).length = N.length) : Round Ext0 Try.prog clEn (lbody Try.prog 10 24) (en3 N c ⟨s, n, b, f, d⟩ i) (.normal) (en3 N c ⟨s, n, b, f, d + 1⟩ (i + 1)) := by
  refine ⟨⟨true, (bs [(67, true), (75, true), (83, false)] ++ [(73, ⟨.c (.int .i64 z), none⟩), (81, ⟨.c (.int .i64 z), none⟩), (87, ⟨.c (str w), none⟩), (94, ⟨.c (.int .i64 b2), none⟩)])⟩, _, 60, ⟨[], [0, 4, 5, 7, 8, 9, 10, 12], []⟩, [decide ((↑i : Int) < ↑N.length) = true,
 (0 : Int) ≤ ↑i,
 (↑i : Int) < ↑N.length,
 (((0 : Nat) : Nat) < ((List.drop i (nats N)).length)),
 avEq ((List.drop i (nats N)).headD AV.any) ((AV.c ((Value.int .i64 ((↑z : Int)))))),
 decide ((↑z : Int) < ↑c) = true,
 (IntKind.i64.min : Int) ≤ ↑d + 1,
 (↑d + 1 : Int) ≤ IntKind.i64.max,
 (0 : Int) ≤ ↑i,
 (↑i : Int) < ↑N.length,
 (((0 : Nat) : Nat) < ((List.drop i (nats N)).length)),
 avEq ((List.drop i (nats N)).headD AV.any) ((AV.c ((Value.int .i64 ((↑z : Int)))))),
 ((↑z : Int) == (↑c : Int)) = false,
 (IntKind.i64.min : Int) ≤ ↑i + 1,
 (↑i + 1 : Int) ≤ IntKind.i64.max], lpBy_nil, by decide, by kernel_rfl, ?_⟩
  all_goals try simp (disch := omega) only [std, List.length_drop, hnl, toNat_succ7]
  all_goals repeat' apply And.intro
  all_goals first | exact True.intro | omega | with_reducible rfl | with_reducible assumption | exact congrArg (fun n : Nat => (n : Int)) hb2 | exact hat | exact hnl | rfl


theorem eiB_all (N : List Nat) (c i z : Nat) (s w : List UInt8) (n b d b2 : Nat) (f : Bool) (hi : i < N.length) (hat : avEq (((nats N).drop i).headD .any) (.c (.int .i64 z))) (hz : z = c) (hw : leB b 40 0 d = w) (hb2 : adp d (n + 1) f = b2) (hl : N.length ≤ 255) (hc : c ≤ 1114112) (hn : n ≤ 600) (hd : d ≤ 300000000) (hb : b ≤ 1000) (hs : s.length ≤ 100000) (hwl : w.length ≤ 40) (hnl : (nats N).length = N.length) : Round Ext0 Try.prog clEn (lbody Try.prog 10 24) (en3 N c ⟨s, n, b, f, d⟩ i) (.normal) (en3 N c ⟨s ++ w, n + 1, b2, false, 0⟩ (i + 1)) := by
  refine ⟨⟨true, (bs [(67, true), (75, false), (83, true)] ++ [(73, ⟨.c (.int .i64 z), none⟩), (81, ⟨.c (.int .i64 z), none⟩), (87, ⟨.c (str w), none⟩), (94, ⟨.c (.int .i64 b2), none⟩)])⟩, _, 60, ⟨[], [0, 4, 5, 7, 8, 9, 10, 12], []⟩, [decide ((↑i : Int) < ↑N.length) = true,
 (0 : Int) ≤ ↑i,
 (↑i : Int) < ↑N.length,
 (((0 : Nat) : Nat) < ((List.drop i (nats N)).length)),
 avEq ((List.drop i (nats N)).headD AV.any) ((AV.c ((Value.int .i64 ((↑z : Int)))))),
 decide ((↑z : Int) < ↑c) = false,
 (0 : Int) ≤ ↑i,
 (↑i : Int) < ↑N.length,
 (((0 : Nat) : Nat) < ((List.drop i (nats N)).length)),
 avEq ((List.drop i (nats N)).headD AV.any) ((AV.c ((Value.int .i64 ((↑z : Int)))))),
 ((↑z : Int) == (↑c : Int)) = true,
 (0 : Int) ≤ ↑d,
 (↑d : Int) ≤ 2147483647,
 (0 : Int) ≤ ↑b,
 (↑b : Int) ≤ 100000,
 ((leB b (40 : Nat) (0 : Nat) d : List UInt8)) = (w),
 ((s.length + w.length : Nat) ≤ ((9223372036854775807 : Nat))),
 (IntKind.i64.min : Int) ≤ ↑n + 1,
 (↑n + 1 : Int) ≤ IntKind.i64.max,
 (0 : Int) ≤ ↑d,
 (↑d : Int) ≤ 2147483647,
 (1 : Int) ≤ ↑n + 1,
 (↑n + 1 : Int) ≤ 1000,
 (((↑(adp d ((↑n : Int) + (1 : Int)).toNat f) : Int) : Int)) = ((↑b2 : Int)),
 (IntKind.i64.min : Int) ≤ ↑i + 1,
 (↑i + 1 : Int) ≤ IntKind.i64.max], lpBy_nil, by decide, by kernel_rfl, ?_⟩
  all_goals try simp (disch := omega) only [std, List.length_drop, hnl, toNat_succ7]
  all_goals repeat' apply And.intro
  all_goals first | exact True.intro | omega | with_reducible rfl | with_reducible assumption | exact congrArg (fun n : Nat => (n : Int)) hb2 | exact hat | exact hz | exact hw | exact hb2 | exact hnl | rfl


theorem eiC_all (N : List Nat) (c i z : Nat) (s w : List UInt8) (n b d b2 : Nat) (f : Bool) (hi : i < N.length) (hat : avEq (((nats N).drop i).headD .any) (.c (.int .i64 z))) (hz : c < z) (hl : N.length ≤ 255) (hc : c ≤ 1114112) (hn : n ≤ 600) (hd : d ≤ 300000000) (hb : b ≤ 1000) (hs : s.length ≤ 100000) (hwl : w.length ≤ 40) (hnl : (nats N).length = N.length) : Round Ext0 Try.prog clEn (lbody Try.prog 10 24) (en3 N c ⟨s, n, b, f, d⟩ i) (.normal) (en3 N c ⟨s, n, b, f, d⟩ (i + 1)) := by
  refine ⟨⟨true, (bs [(67, true), (75, false), (83, false)] ++ [(73, ⟨.c (.int .i64 z), none⟩), (81, ⟨.c (.int .i64 z), none⟩), (87, ⟨.c (str w), none⟩), (94, ⟨.c (.int .i64 b2), none⟩)])⟩, _, 60, ⟨[], [0, 4, 5, 7, 8, 9, 10, 12], []⟩, [decide ((↑i : Int) < ↑N.length) = true,
 (0 : Int) ≤ ↑i,
 (↑i : Int) < ↑N.length,
 (((0 : Nat) : Nat) < ((List.drop i (nats N)).length)),
 avEq ((List.drop i (nats N)).headD AV.any) ((AV.c ((Value.int .i64 ((↑z : Int)))))),
 decide ((↑z : Int) < ↑c) = false,
 (0 : Int) ≤ ↑i,
 (↑i : Int) < ↑N.length,
 (((0 : Nat) : Nat) < ((List.drop i (nats N)).length)),
 avEq ((List.drop i (nats N)).headD AV.any) ((AV.c ((Value.int .i64 ((↑z : Int)))))),
 ((↑z : Int) == (↑c : Int)) = false,
 (IntKind.i64.min : Int) ≤ ↑i + 1,
 (↑i + 1 : Int) ≤ IntKind.i64.max], lpBy_nil, by decide, by kernel_rfl, ?_⟩
  all_goals try simp (disch := omega) only [std, List.length_drop, hnl, toNat_succ7]
  all_goals repeat' apply And.intro
  all_goals first | exact True.intro | omega | with_reducible rfl | with_reducible assumption | exact congrArg (fun n : Nat => (n : Int)) hb2 | exact hat | exact hnl | rfl


theorem eiZ_all (N : List Nat) (c i z : Nat) (s w : List UInt8) (n b d b2 : Nat) (f : Bool) (hi : i = N.length) (hl : N.length ≤ 255) (hc : c ≤ 1114112) (hn : n ≤ 600) (hd : d ≤ 300000000) (hb : b ≤ 1000) (hs : s.length ≤ 100000) (hwl : w.length ≤ 40) (hnl : (nats N).length = N.length) : Round Ext0 Try.prog clEn (lbody Try.prog 10 24) (en3 N c ⟨s, n, b, f, d⟩ i) (.exit 4) (en2 N c ⟨s, n, b, f, d⟩) := by
  refine ⟨⟨true, (bs [(67, false)] ++ [(73, ⟨.c (.int .i64 z), none⟩), (81, ⟨.c (.int .i64 z), none⟩), (87, ⟨.c (str w), none⟩), (94, ⟨.c (.int .i64 b2), none⟩)])⟩, _, 60, ⟨[], [0, 4, 5, 7, 8, 9, 10], []⟩, [decide ((↑i : Int) < ↑N.length) = false], lpBy_nil, by decide, by kernel_rfl, ?_⟩
  all_goals try simp (disch := omega) only [std, List.length_drop, hnl, toNat_succ7]
  all_goals repeat' apply And.intro
  all_goals first | exact True.intro | omega | with_reducible rfl | with_reducible assumption | exact congrArg (fun n : Nat => (n : Int)) hb2 | exact hi | exact hnl | rfl

theorem ei_walk (N : List Nat) (c n0 d0 : Nat) (x : Wst) (hl : N.length ≤ 255) (hc : c ≤ 1114112) (hx : Bd x 0 n0 d0) (hd : d0 + 255 ≤ 300000000) (hn : n0 ≤ 255) : Tri Ext0 Try.prog (.loop (lbody Try.prog 10 24)) (en3 N c x 0) (.exit 4) (en2 N c (scT c N x)) := by
  have hbd : ∀ i, i ≤ N.length → Bd (scT c (N.take i) x) i n0 d0 := fun i hi => by
    have e : (N.take i).length = i := by rw [List.length_take]; omega
    have := scT_bd (c := c) (N.take i) 0 hx (by omega)
    rw [e, Nat.zero_add] at this
    exact this
  have h := loop_up mixed clEn_ok (b := lbody Try.prog 10 24) (fun i => en3 N c (scT c (N.take i) x) i) N.length (e := .exit 4) (R := en2 N c (scT c N x)) (by simp) (fun i hi => by
    obtain ⟨b1, b2, b3, b4⟩ := hbd i (by omega)
    have ht : N.take (i + 1) = N.take i ++ [N.getD i 0] := take_succ_getD N i 0 hi
    have ha : avEq (((nats N).drop i).headD .any) (.c (.int .i64 (N.getD i 0 : Nat))) := by rw [nats_at N i hi]; exact avEq_refl _
    rw [ht, scT_snoc]
    generalize scT c (N.take i) x = y at *
    obtain ⟨s, n, b, f, d⟩ := y
    simp only at b1 b2 b3 b4
    have hw := leB_le b 40 0 d
    unfold scS
    by_cases h1 : N.getD i 0 < c
    · rw [if_pos h1]
      exact eiA_all N c i _ s (leB b 40 0 d) n b d 0 f hi ha h1 hl hc (by omega) (by omega) b3 (by omega) hw (nats_length N)
    · rw [if_neg h1]
      by_cases h2 : N.getD i 0 = c
      · rw [if_pos h2]
        exact eiB_all N c i _ s _ n b d _ f hi ha h2 rfl rfl hl hc (by omega) (by omega) b3 (by omega) hw (nats_length N)
      · rw [if_neg h2]
        exact eiC_all N c i _ s (leB b 40 0 d) n b d 0 f hi ha (by omega) hl hc (by omega) (by omega) b3 (by omega) hw (nats_length N)) (by
    obtain ⟨b1, b2, b3, b4⟩ := hbd N.length (Nat.le_refl _)
    rw [List.take_length] at *
    generalize scT c N x = y at *
    obtain ⟨s, n, b, f, d⟩ := y
    simp only at b1 b2 b3 b4
    exact eiZ_all N c N.length 0 s [] n b d 0 f rfl hl hc (by omega) (by omega) b3 (by omega) (by simp) (nats_length N)) 0 (Nat.zero_le _)
  exact h

noncomputable def eiLp (N : List Nat) (c : Nat) (x y : Wst) : List (Nat × Lp) := [(24, ⟨lbody Try.prog 10 24, ⟨[], [0, 4, 5, 7, 8, 9, 10, 12], []⟩, en3 N c x 0, .exit 4, en2 N c y⟩)]

def enE (s : List UInt8) : St := ⟨frame 100 [(4, .c (str s))], []⟩

theorem eoA_all (N : List Nat) (c m k : Nat) (s s2 : List UInt8) (n b d n2 b2 d2 : Nat) (f f2 : Bool) (hi : n < N.length) (hlp : LpOK Ext0 Try.prog (lpBy (eiLp N m ⟨s, n, b, f, d + k⟩ ⟨s2, n2, b2, f2, d2⟩))) (hc : c ≤ m) (hm : m ≤ 1114111) (hle : leastN N c = m) (hd : d ≤ 300000000) (hk : (((m - c : Nat) : Int) * ((n : Int) + 1)) = (k : Nat)) (hkl : k ≤ 300000000) (hd2 : d2 ≤ 300000000) (hun : nats N = nats (unnats (nats N))) (hun2 : unnats (nats N) = N) (hl : N.length ≤ 255) : Round Ext0 Try.prog clEn (lbody Try.prog 10 19) (en2 N c ⟨s, n, b, f, d⟩) (.normal) (en2 N (m + 1) ⟨s2, n2, b2, f2, d2 + 1⟩) := by
  refine ⟨⟨true, (bs [(51, true)] ++ [(54, ⟨.c (.int .i64 m), none⟩), (58, ⟨.c (.int .i64 (m - c : Nat)), none⟩), (61, ⟨.c (.int .i64 k), none⟩)])⟩, _, 60, ⟨[], [0, 4, 5, 7, 8, 9, 10], []⟩, [decide ((↑n : Int) < ↑N.length) = true,
 (((1 : Nat) : Nat)) = ((1 : Nat)),
 ((nats N : List AV)) = (nats (unnats (nats N))),
 ((N.length : Nat)) = ((unnats (nats N)).length),
 ((N.length : Nat) ≤ ((1000 : Nat))),
 (0 : Int) ≤ ↑c,
 (((↑(leastN (unnats (nats N)) c) : Int) : Int)) = ((↑m : Int)),
 (IntKind.i64.min : Int) ≤ ↑m - ↑c,
 (↑m - ↑c : Int) ≤ IntKind.i64.max,
 (↑m - ↑c : Int) = ↑(m - c),
 (IntKind.i64.min : Int) ≤ ↑n + 1,
 (↑n + 1 : Int) ≤ IntKind.i64.max,
 (IntKind.i64.min : Int) ≤ ↑(m - c) * (↑n + 1),
 (↑(m - c) * (↑n + 1) : Int) ≤ IntKind.i64.max,
 (↑(m - c) * (↑n + 1) : Int) = ↑k,
 (IntKind.i64.min : Int) ≤ ↑d + ↑k,
 (↑d + ↑k : Int) ≤ IntKind.i64.max,
 ((lbody Try.prog (10 : FuncId) (24 : Nat) : Go.Code)) = (lbody Try.prog (10 : FuncId) (24 : Nat)),
 ((en3 N m { s := s, n := n, b := b, f := f, d := d + k } (0 : Nat) : Go.Proofs.Ytljgmgbjfjhjmaa.St)) = (en3 N m { s := s, n := n, b := b, f := f, d := d + k } (0 : Nat)),
 (IntKind.i64.min : Int) ≤ ↑d2 + 1,
 (↑d2 + 1 : Int) ≤ IntKind.i64.max,
 (IntKind.i64.min : Int) ≤ ↑m + 1,
 (↑m + 1 : Int) ≤ IntKind.i64.max], hlp, by decide, by kernel_rfl, ?_⟩
  all_goals try simp (disch := omega) only [std, hun2, toNat_succ7]
  all_goals repeat' apply And.intro
  all_goals first | exact True.intro | omega | with_reducible rfl | with_reducible assumption | exact hlp | exact hle | exact hk | exact hun | exact hun2 | rfl


theorem eoZ_all (N : List Nat) (c m k : Nat) (s s2 : List UInt8) (n b d n2 b2 d2 : Nat) (f f2 : Bool) (hi : ¬ n < N.length) (hl : N.length ≤ 255) : Round Ext0 Try.prog clEn (lbody Try.prog 10 19) (en2 N c ⟨s, n, b, f, d⟩) (.exit 2) (enE s) := by
  refine ⟨⟨true, (bs [(51, false)] ++ [(54, ⟨.c (.int .i64 m), none⟩), (58, ⟨.c (.int .i64 (m - c : Nat)), none⟩), (61, ⟨.c (.int .i64 k), none⟩)])⟩, _, 60, ⟨[], [4], []⟩, [decide ((↑n : Int) < ↑N.length) = false], lpBy_nil, by decide, by kernel_rfl, ?_⟩
  all_goals try simp (disch := omega) only [std]
  all_goals repeat' apply And.intro
  all_goals first | exact True.intro | omega | with_reducible rfl | with_reducible assumption | rfl

theorem okC_le {c : Nat} (h : okC c = true) : c ≤ 1114111 := by
  unfold okC at h
  rw [Bool.and_eq_true, decide_eq_true_eq] at h
  exact h.1

theorem filter_same {N : List Nat} {c m : Nat} (hcm : c ≤ m) (h : ∀ x ∈ N, c ≤ x → m ≤ x) : N.filter (fun z => decide (z < c)) = N.filter (fun z => decide (z < m)) := by
  apply List.filter_congr
  intro x hx
  rw [decide_eq_decide]
  constructor
  · omega
  · intro h1
    apply Classical.byContradiction
    intro h2
    have := h x hx (by omega)
    omega

theorem scan_len (c : Nat) : ∀ (r : List Nat) (n d : Nat), (scanE c r n d).2.1 = n + (r.filter (fun z => decide (z = c))).length
  | [], n, d => rfl
  | z :: r, n, d => by
    unfold scanE
    rw [List.filter_cons]
    split
    · rw [scan_len c r, if_neg (by simp; omega)]
    · split
      · rename_i h
        show (scanE c r (n + 1) 0).2.1 = _
        rw [scan_len c r, if_pos (by simpa using h), List.length_cons]; omega
      · rename_i h
        rw [scan_len c r, if_neg (by simpa using h)]

theorem filter_step (N : List Nat) (m : Nat) : (N.filter (fun z => decide (z < m + 1))).length = (N.filter (fun z => decide (z < m))).length + (N.filter (fun z => decide (z = m))).length := by
  induction N with
  | nil => rfl
  | cons z r ih =>
    simp only [List.filter_cons]
    by_cases h1 : z < m
    · rw [if_pos (by simp; omega), if_pos (by simpa using h1), if_neg (by simp; omega)]
      simp only [List.length_cons]; omega
    · by_cases h2 : z = m
      · rw [if_pos (by simp; omega), if_neg (by simpa using h1), if_pos (by simpa using h2)]
        simp only [List.length_cons]; omega
      · rw [if_neg (by simp; omega), if_neg (by simpa using h1), if_neg (by simpa using h2)]
        exact ih

theorem encE_succ (l : List Nat) (f c n d : Nat) : encE l (f + 1) c n d = if n < l.length then
      (scanE (leastN l c) l n (d + (leastN l c - c) * (n + 1))).1 ++ encE l f (leastN l c + 1) (scanE (leastN l c) l n (d + (leastN l c - c) * (n + 1))).2.1 ((scanE (leastN l c) l n (d + (leastN l c - c) * (n + 1))).2.2 + 1)
    else [] := rfl

structure EoI (N : List Nat) (T : List UInt8) (c : Nat) (x : Wst) (g : Nat) : Prop where
  he : x.s ++ wrT (encE N g c x.n x.d) x.n x.b x.f = T
  hn : x.n = (N.filter (fun z => decide (z < c))).length
  c1 : 128 ≤ c
  c2 : c ≤ 1114112
  hd : x.d ≤ 256 * (c - 128)
  hb : x.b ≤ 1000
  hs : x.s.length ≤ 300 + 40 * x.n
  hg : N.length < x.n + g

theorem eo_walk (N : List Nat) (hl : N.length ≤ 255) (hs : ∀ x ∈ N, okC x = true) (s0 : List UInt8) (h0 : s0.length ≤ 300) :
    Tri Ext0 Try.prog (.loop (lbody Try.prog 10 19)) (en2 N 128 ⟨s0, (bas N).length, 72, true, 0⟩) (.exit 2) (enE (s0 ++ wrT (encE N (N.length + 1) 128 (bas N).length 0) (bas N).length 72 true)) := by
  have hun := unnats_nats N
  refine loop_inv mixed clEn_ok (fun y : Nat × Wst × Nat => en2 N y.1 y.2.1) (fun y => EoI N (s0 ++ wrT (encE N (N.length + 1) 128 (bas N).length 0) (bas N).length 72 true) y.1 y.2.1 y.2.2) (fun y => N.length - y.2.1.n) (fun y hy => ?_) (128, ⟨s0, (bas N).length, 72, true, 0⟩, N.length + 1)
    ⟨rfl, rfl, Nat.le_refl _, by simp, by simp, by simp, by simp only; omega, by simp only; omega⟩
  generalize s0 ++ wrT (encE N (N.length + 1) 128 (bas N).length 0) (bas N).length 72 true = T at *
  obtain ⟨c, x, g⟩ := y
  obtain ⟨s, n, b, f, d⟩ := x
  obtain ⟨he, hn, c1, c2, hd, hb, hs2, hg⟩ := hy
  simp only at he hn c1 c2 hd hb hs2 hg ⊢
  by_cases hi : n < N.length
  · obtain ⟨m1, m2, m3⟩ := least_of (fun x hx => okC_le (hs x hx)) (filter_lt_len (c := c) (by omega))
    have hm := okC_le (hs _ m1)
    obtain ⟨g, rfl⟩ : ∃ k, g = k + 1 := ⟨g - 1, by omega⟩
    rw [encE_succ, if_pos hi] at he
    have hsame := filter_same m2 m3
    rw [hsame] at hn
    generalize hk : leastN N c = m at *
    have hkk : (m - c) * (n + 1) ≤ (m - c) * 255 := Nat.mul_le_mul_left _ (by omega)
    obtain ⟨e1, e2⟩ := scT_is m N ⟨s, n, b, f, d + (m - c) * (n + 1)⟩
    have e3 := scan_len m N n (d + (m - c) * (n + 1))
    have e4 := filter_step N m
    have hbd := scT_bd (x := ⟨s, n, b, f, d + (m - c) * (n + 1)⟩) (c := m) (n0 := n) (d0 := d + (m - c) * (n + 1)) N 0 ⟨by simp, by simp, hb, hs2⟩ (by omega)
    have hw := ei_walk N m n (d + (m - c) * (n + 1)) ⟨s, n, b, f, d + (m - c) * (n + 1)⟩ hl (by omega) ⟨by simp, by simp, hb, hs2⟩ (by omega) (by omega)
    have hpos : 0 < (N.filter (fun z => decide (z = m))).length := List.length_pos_iff.2 (List.ne_nil_of_mem (List.mem_filter.2 ⟨m1, by simp⟩))
    simp only at e1 e2
    have hsn : (scT m N ⟨s, n, b, f, d + (m - c) * (n + 1)⟩).n = n + (N.filter (fun z => decide (z = m))).length := by rw [e1]; exact e3
    have hkey : (scT m N ⟨s, n, b, f, d + (m - c) * (n + 1)⟩).s ++ wrT (encE N g (m + 1) (scT m N ⟨s, n, b, f, d + (m - c) * (n + 1)⟩).n ((scT m N ⟨s, n, b, f, d + (m - c) * (n + 1)⟩).d + 1)) (scT m N ⟨s, n, b, f, d + (m - c) * (n + 1)⟩).n (scT m N ⟨s, n, b, f, d + (m - c) * (n + 1)⟩).b (scT m N ⟨s, n, b, f, d + (m - c) * (n + 1)⟩).f = T := by
      rw [← he, wrT_app, e1]
      simp only
      rw [List.append_assoc, ← e2]
    have hx : ((m - c : Nat) : Int) * ((n : Int) + 1) = (((m - c) * (n + 1) : Nat) : Int) := by simp
    clear e1 he
    generalize hy : scT m N ⟨s, n, b, f, d + (m - c) * (n + 1)⟩ = y at *
    obtain ⟨s2, n2, b2, f2, d2⟩ := y
    obtain ⟨q1, q2, q3, q4⟩ := hbd
    simp only at q1 q2 q3 q4 hsn hkey
    refine .inl ⟨(m + 1, ⟨s2, n2, b2, f2, d2 + 1⟩, g), ⟨hkey, by simp only; omega, by simp only; omega, by simp only; omega, by simp only; omega, q3, by simp only; omega, by simp only; omega⟩, by simp only; omega, ?_⟩
    exact eoA_all N c m ((m - c) * (n + 1)) s s2 n b d n2 b2 d2 f f2 hi (lpBy_cons lpBy_nil List.nodup_nil hw) m2 hm hk (by omega) hx (by omega) (by omega) (by rw [hun]) hun hl
  · obtain ⟨g, rfl⟩ : ∃ k, g = k + 1 := ⟨g - 1, by
      have : (N.filter (fun z => decide (z < c))).length ≤ N.length := List.length_filter_le _ _
      omega⟩
    rw [encE_succ, if_neg hi] at he
    have he : s = T := by rw [← he]; show s = s ++ []; rw [List.append_nil]
    subst he
    exact .inr ⟨by simp, eoZ_all N c 0 0 s [] n b d 0 0 0 f true hi hl⟩

/-! The first signs, of any row of numbers. -/
def en1 (C : List AV) (k : Nat) (s : List UInt8) (n i : Nat) : St := ⟨frame 100 [(0, .fs 1 k C), (4, .c (str s)), (5, .c (.int .i64 n)), (6, .c (.int .i64 i))], []⟩
def en0 (C : List AV) (k : Nat) (s : List UInt8) (n : Nat) : St := ⟨frame 100 [(0, .fs 1 k C), (4, .c (str s)), (5, .c (.int .i64 n))], []⟩
def enN : St := ⟨frame 100 [(2, .c (str [])), (3, .c (.bool false))], []⟩

theorem efA_all (C : List AV) (k i n : Nat) (s : List UInt8) (z : Int) (w : UInt8) (hi : i < k) (hat : avEq ((C.drop i).headD .any) (.c (.int .i64 z))) (hok : okI z = true) (hz0 : 0 ≤ z) (hz : z < 128) (hw : UInt8.ofNat z.toNat = w) (hk : k ≤ 255) (hC : C.length = k) (hn : n ≤ 600) (hs : s.length ≤ 600) : Round Ext0 Try.prog clEn (lbody Try.prog 10 6) (en1 C k s n i) (.normal) (en1 C k (s ++ [w]) (n + 1) (i + 1)) := by
  refine ⟨⟨true, (bs [(19, true), (26, true), (32, true)] ++ [(40, ⟨.c (str [w]), none⟩)] ++ [(25, ⟨.c (.int .i64 z), none⟩), (31, ⟨.c (.int .i64 z), none⟩), (37, ⟨.c (.int .i64 z), none⟩)])⟩, _, 60, ⟨[], [0, 4, 5, 6], []⟩, [decide ((↑i : Int) < ↑k) = true,
 (0 : Int) ≤ ↑i,
 (↑i : Int) < ↑k,
 (((0 : Nat) : Nat) < ((List.drop i C).length)),
 avEq ((List.drop i C).headD AV.any) ((AV.c ((Value.int .i64 z)))),
 (okI z) = true,
 (0 : Int) ≤ ↑i,
 (↑i : Int) < ↑k,
 (((0 : Nat) : Nat) < ((List.drop i C).length)),
 avEq ((List.drop i C).headD AV.any) ((AV.c ((Value.int .i64 z)))),
 decide ((z : Int) < 128) = true,
 (0 : Int) ≤ ↑i,
 (↑i : Int) < ↑k,
 (((0 : Nat) : Nat) < ((List.drop i C).length)),
 avEq ((List.drop i C).headD AV.any) ((AV.c ((Value.int .i64 z)))),
 (((1 : Nat) : Nat) ≤ ((1 : Nat))),
 bytesOK ([(AV.c ((Value.int .u8 (IntKind.u8.wrap z))))]),
 (([UInt8.ofNat (Int.toNat (IntKind.u8.wrap z))] : List UInt8)) = ([w]),
 ((s.length + (1 : Nat) : Nat) ≤ ((9223372036854775807 : Nat))),
 (IntKind.i64.min : Int) ≤ ↑n + 1,
 (↑n + 1 : Int) ≤ IntKind.i64.max,
 (IntKind.i64.min : Int) ≤ ↑i + 1,
 (↑i + 1 : Int) ≤ IntKind.i64.max], lpBy_nil, by decide, by kernel_rfl, ?_⟩
  all_goals try simp (disch := omega) only [std, List.length_drop, hC, bytesOK_cons, bytesOK_nil]
  all_goals repeat' apply And.intro
  all_goals first | exact True.intro | omega | with_reducible rfl | with_reducible assumption | exact congrArg (fun c : UInt8 => [c]) hw | exact hat | exact hok | exact hw | exact hC | rfl


theorem efB_all (C : List AV) (k i n : Nat) (s : List UInt8) (z : Int) (w : UInt8) (hi : i < k) (hat : avEq ((C.drop i).headD .any) (.c (.int .i64 z))) (hok : okI z = true) (hz : ¬ z < 128) (hk : k ≤ 255) (hC : C.length = k) (hn : n ≤ 600) (hs : s.length ≤ 600) : Round Ext0 Try.prog clEn (lbody Try.prog 10 6) (en1 C k s n i) (.normal) (en1 C k s n (i + 1)) := by
  refine ⟨⟨true, (bs [(19, true), (26, true), (32, false)] ++ [] ++ [(25, ⟨.c (.int .i64 z), none⟩), (31, ⟨.c (.int .i64 z), none⟩), (37, ⟨.c (.int .i64 z), none⟩)])⟩, _, 60, ⟨[], [0, 4, 5, 6], []⟩, [decide ((↑i : Int) < ↑k) = true,
 (0 : Int) ≤ ↑i,
 (↑i : Int) < ↑k,
 (((0 : Nat) : Nat) < ((List.drop i C).length)),
 avEq ((List.drop i C).headD AV.any) ((AV.c ((Value.int .i64 z)))),
 (okI z) = true,
 (0 : Int) ≤ ↑i,
 (↑i : Int) < ↑k,
 (((0 : Nat) : Nat) < ((List.drop i C).length)),
 avEq ((List.drop i C).headD AV.any) ((AV.c ((Value.int .i64 z)))),
 decide ((z : Int) < 128) = false,
 (IntKind.i64.min : Int) ≤ ↑i + 1,
 (↑i + 1 : Int) ≤ IntKind.i64.max], lpBy_nil, by decide, by kernel_rfl, ?_⟩
  all_goals try simp (disch := omega) only [std, List.length_drop, hC, bytesOK_cons, bytesOK_nil]
  all_goals repeat' apply And.intro
  all_goals first | exact True.intro | omega | with_reducible rfl | with_reducible assumption | exact congrArg (fun c : UInt8 => [c]) hw | exact hat | exact hok | exact hC | rfl


theorem efF_all (C : List AV) (k i n : Nat) (s : List UInt8) (z : Int) (w : UInt8) (hi : i < k) (hat : avEq ((C.drop i).headD .any) (.c (.int .i64 z))) (hok : okI z = false) (hk : k ≤ 255) (hC : C.length = k) (hn : n ≤ 600) (hs : s.length ≤ 600) : Round Ext0 Try.prog clEn (lbody Try.prog 10 6) (en1 C k s n i) (.ret) (enN) := by
  refine ⟨⟨true, (bs [(19, true), (26, false)] ++ [] ++ [(25, ⟨.c (.int .i64 z), none⟩), (31, ⟨.c (.int .i64 z), none⟩), (37, ⟨.c (.int .i64 z), none⟩)])⟩, _, 60, ⟨[], [2, 3], []⟩, [decide ((↑i : Int) < ↑k) = true,
 (0 : Int) ≤ ↑i,
 (↑i : Int) < ↑k,
 (((0 : Nat) : Nat) < ((List.drop i C).length)),
 avEq ((List.drop i C).headD AV.any) ((AV.c ((Value.int .i64 z)))),
 (okI z) = false], lpBy_nil, by decide, by kernel_rfl, ?_⟩
  all_goals try simp (disch := omega) only [std, List.length_drop, hC, bytesOK_cons, bytesOK_nil]
  all_goals repeat' apply And.intro
  all_goals first | exact True.intro | omega | with_reducible rfl | with_reducible assumption | exact congrArg (fun c : UInt8 => [c]) hw | exact hat | exact hok | exact hC | rfl


theorem efZ_all (C : List AV) (k i n : Nat) (s : List UInt8) (z : Int) (w : UInt8) (hi : i = k) (hk : k ≤ 255) (hC : C.length = k) (hn : n ≤ 600) (hs : s.length ≤ 600) : Round Ext0 Try.prog clEn (lbody Try.prog 10 6) (en1 C k s n i) (.exit 0) (en0 C k s n) := by
  refine ⟨⟨true, (bs [(19, false)] ++ [] ++ [(25, ⟨.c (.int .i64 z), none⟩), (31, ⟨.c (.int .i64 z), none⟩), (37, ⟨.c (.int .i64 z), none⟩)])⟩, _, 60, ⟨[], [0, 4, 5], []⟩, [decide ((↑i : Int) < ↑k) = false], lpBy_nil, by decide, by kernel_rfl, ?_⟩
  all_goals try simp (disch := omega) only [std, List.length_drop, hC, bytesOK_cons, bytesOK_nil]
  all_goals repeat' apply And.intro
  all_goals first | exact True.intro | omega | with_reducible rfl | with_reducible assumption | exact congrArg (fun c : UInt8 => [c]) hw | exact hi | exact hC | rfl

def natL (L : List Int) : List Nat := L.map Int.toNat
theorem okI_ge {z : Int} (h : okI z = true) : 0 ≤ z := by
  unfold okI at h
  rw [Bool.and_eq_true, decide_eq_true_eq] at h
  exact h.1
theorem okI_toNat {z : Int} (h : okI z = true) : okC z.toNat = true := by
  unfold okI at h
  rw [Bool.and_eq_true] at h
  exact h.2
theorem rowN_nats {L : List Int} (h : L.all okI = true) : rowN L = nats (natL L) := by
  unfold rowN nats natL
  rw [List.map_map]
  apply List.map_congr_left
  intro z hz
  have := okI_ge (List.all_eq_true.1 h z hz)
  show _ = AV.c (.int .i64 ((z.toNat : Nat) : Int))
  rw [Int.toNat_of_nonneg this]
theorem natL_ok {L : List Int} (h : L.all okI = true) : ∀ x ∈ natL L, okC x = true := by
  intro x hx
  obtain ⟨z, hz, rfl⟩ := List.mem_map.1 hx
  exact okI_toNat (List.all_eq_true.1 h z hz)
/-- What the first signs put down. -/
def fsB (L : List Int) : List UInt8 := byt (bas (natL L))

theorem fsB_snoc (L : List Int) (i : Nat) (h : i < L.length) (hz : 0 ≤ L.getD i 0) : fsB (L.take (i + 1)) = if L.getD i 0 < 128 then fsB (L.take i) ++ [UInt8.ofNat (L.getD i 0).toNat] else fsB (L.take i) := by
  unfold fsB natL bas byt
  rw [take_succ_getD L i 0 h, List.map_append, List.filter_append, List.map_append]
  generalize L.getD i 0 = z at *
  split
  · rename_i hlt
    simp only [List.map_cons, List.map_nil, List.filter_cons, List.filter_nil]
    rw [if_pos (by simp; omega)]
    rfl
  · rename_i hlt
    simp only [List.map_cons, List.map_nil, List.filter_cons, List.filter_nil]
    rw [if_neg (by simp; omega)]
    simp

theorem fsB_len (L : List Int) (i : Nat) : (fsB (L.take i)).length ≤ i := by
  unfold fsB natL bas byt
  rw [List.length_map]
  have h1 := List.length_filter_le (fun z : Nat => decide (z < 128)) ((L.take i).map Int.toNat)
  rw [List.length_map, List.length_take] at h1
  omega

theorem ef_walk (L : List Int) (hl : L.length ≤ 255) : Tri Ext0 Try.prog (.loop (lbody Try.prog 10 6)) (en1 (rowN L) L.length [] 0 0) (if L.all okI = true then .exit 0 else .ret) (if L.all okI = true then en0 (rowN L) L.length (fsB L) (fsB L).length else enN) := by
  refine loop_inv mixed clEn_ok (fun i => en1 (rowN L) L.length (fsB (L.take i)) (fsB (L.take i)).length i) (fun i => i ≤ L.length ∧ (L.take i).all okI = true) (fun i => L.length - i) (fun i hx => ?_) 0 ⟨Nat.zero_le _, rfl⟩
  obtain ⟨h1, h2⟩ := hx
  have hb := fsB_len L i
  by_cases hi : i < L.length
  · have ha : avEq (((rowN L).drop i).headD .any) (.c (.int .i64 (L.getD i 0))) := by rw [rowN_at L i hi]; exact avEq_refl _
    have htk : (L.take (i + 1)).all okI = ((L.take i).all okI && okI (L.getD i 0)) := by
      rw [take_succ_getD L i 0 hi, List.all_append]; simp
    cases hok : okI (L.getD i 0) with
    | false =>
      have : L.all okI = false := by
        rw [← List.take_append_drop (i + 1) L, List.all_append, htk, hok]; simp
      rw [this]
      exact .inr ⟨by simp, efF_all (rowN L) L.length i _ _ _ 0 hi ha hok hl (rowN_length L) (by omega) (by omega)⟩
    | true =>
      have h0 := okI_ge hok
      refine .inl ⟨i + 1, ⟨hi, by rw [htk, h2, hok]; rfl⟩, by omega, ?_⟩
      rw [fsB_snoc L i hi h0]
      by_cases hz : L.getD i 0 < 128
      · rw [if_pos hz, List.length_append]
        exact efA_all (rowN L) L.length i _ _ _ _ hi ha hok h0 hz rfl hl (rowN_length L) (by omega) (by omega)
      · rw [if_neg hz]
        exact efB_all (rowN L) L.length i _ _ _ 0 hi ha hok hz hl (rowN_length L) (by omega) (by omega)
  · have he : i = L.length := by omega
    subst he
    rw [List.take_length] at *
    rw [h2]
    exact .inr ⟨by simp, efZ_all (rowN L) L.length L.length _ _ 0 0 rfl hl (rowN_length L) (by omega) (by omega)⟩

noncomputable def enLp1 (C : List AV) (k : Nat) (e : Exit) (R : St) : Nat × Lp := (6, ⟨lbody Try.prog 10 6, ⟨[], [0, 4, 5, 6], []⟩, en1 C k [] 0 0, e, R⟩)
noncomputable def enLp2 (N : List Nat) (s : List UInt8) (n : Nat) (R : St) : Nat × Lp := (19, ⟨lbody Try.prog 10 19, ⟨[], [0, 4, 5, 7, 8, 9, 10], []⟩, en2 N 128 ⟨s, n, 72, true, 0⟩, .exit 2, R⟩)

theorem enm1_all (C : List AV) (k : Nat) (hk : 255 < k) : ∃ (h : Hints) (p : List Prop), outcome Try.prog 10 (aBody Try.prog clEn h (lpBy ([])) 60 10 ([.fs 1 k C]) ([])) = some (.tu [.c (str []), .c (.bool false)], p) ∧ allP p := by
  refine ⟨⟨true, (bs [(15, true)])⟩, [decide ((↑k : Int) > 255) = true], by kernel_rfl, ?_⟩
  all_goals try simp (disch := omega) only [std]
  all_goals repeat' apply And.intro
  all_goals first | exact True.intro | omega | with_reducible rfl | with_reducible assumption | rfl

theorem enm2_all (C : List AV) (k : Nat) (hk : k ≤ 255) : ∃ (h : Hints) (p : List Prop), outcome Try.prog 10 (aBody Try.prog clEn h (lpBy ([enLp1 C k .ret enN])) 60 10 ([.fs 1 k C]) ([])) = some (.tu [.c (str []), .c (.bool false)], p) ∧ allP p := by
  refine ⟨⟨true, (bs [(15, false)])⟩, [decide ((↑k : Int) > 255) = false,
 ((lbody Try.prog (10 : FuncId) (6 : Nat) : Go.Code)) = (lbody Try.prog (10 : FuncId) (6 : Nat)),
 ((en1 C k [] (0 : Nat) (0 : Nat) : Go.Proofs.Ytljgmgbjfjhjmaa.St)) = (en1 C k [] (0 : Nat) (0 : Nat))], by kernel_rfl, ?_⟩
  all_goals try simp (disch := omega) only [std]
  all_goals repeat' apply And.intro
  all_goals first | exact True.intro | omega | with_reducible rfl | with_reducible assumption | rfl

theorem enm3T_all (N : List Nat) (s t : List UInt8) (n : Nat) (hk : N.length ≤ 255) (hn : 0 < n) (hs : s.length ≤ 255) : ∃ (h : Hints) (p : List Prop), outcome Try.prog 10 (aBody Try.prog clEn h (lpBy ([enLp1 (nats N) N.length (.exit 0) (en0 (nats N) N.length s n), enLp2 N (s ++ [45]) n (enE t)])) 60 10 ([.fs 1 N.length (nats N)]) ([])) = some (.tu [.c (str t), .c (.bool true)], p) ∧ allP p := by
  refine ⟨⟨true, (bs [(15, false), (45, true)])⟩, [decide ((↑N.length : Int) > 255) = false,
 ((lbody Try.prog (10 : FuncId) (6 : Nat) : Go.Code)) = (lbody Try.prog (10 : FuncId) (6 : Nat)),
 ((en1 (nats N) N.length [] (0 : Nat) (0 : Nat) : Go.Proofs.Ytljgmgbjfjhjmaa.St)) = (en1 (nats N) N.length [] (0 : Nat) (0 : Nat)),
 decide ((↑n : Int) > 0) = true,
 ((s.length + (1 : Nat) : Nat) ≤ ((9223372036854775807 : Nat))),
 ((lbody Try.prog (10 : FuncId) (19 : Nat) : Go.Code)) = (lbody Try.prog (10 : FuncId) (19 : Nat)),
 ((en2 N (128 : Nat) { s := s ++ [(45 : UInt8)], n := n, b := (72 : Nat), f := true, d := (0 : Nat) } : Go.Proofs.Ytljgmgbjfjhjmaa.St)) = (en2 N (128 : Nat) { s := s ++ [(45 : UInt8)], n := n, b := (72 : Nat), f := true, d := (0 : Nat) })], by kernel_rfl, ?_⟩
  all_goals try simp (disch := omega) only [std]
  all_goals repeat' apply And.intro
  all_goals first | exact True.intro | omega | with_reducible rfl | with_reducible assumption | rfl


theorem enm3F_all (N : List Nat) (s t : List UInt8) (n : Nat) (hk : N.length ≤ 255) (hn : n = 0) (hs : s.length ≤ 255) : ∃ (h : Hints) (p : List Prop), outcome Try.prog 10 (aBody Try.prog clEn h (lpBy ([enLp1 (nats N) N.length (.exit 0) (en0 (nats N) N.length s n), enLp2 N s n (enE t)])) 60 10 ([.fs 1 N.length (nats N)]) ([])) = some (.tu [.c (str t), .c (.bool true)], p) ∧ allP p := by
  refine ⟨⟨true, (bs [(15, false), (45, false)])⟩, [decide ((↑N.length : Int) > 255) = false,
 ((lbody Try.prog (10 : FuncId) (6 : Nat) : Go.Code)) = (lbody Try.prog (10 : FuncId) (6 : Nat)),
 ((en1 (nats N) N.length [] (0 : Nat) (0 : Nat) : Go.Proofs.Ytljgmgbjfjhjmaa.St)) = (en1 (nats N) N.length [] (0 : Nat) (0 : Nat)),
 decide ((↑n : Int) > 0) = false,
 ((lbody Try.prog (10 : FuncId) (19 : Nat) : Go.Code)) = (lbody Try.prog (10 : FuncId) (19 : Nat)),
 ((en2 N (128 : Nat) { s := s, n := n, b := (72 : Nat), f := true, d := (0 : Nat) } : Go.Proofs.Ytljgmgbjfjhjmaa.St)) = (en2 N (128 : Nat) { s := s, n := n, b := (72 : Nat), f := true, d := (0 : Nat) })], by kernel_rfl, ?_⟩
  all_goals try simp (disch := omega) only [std]
  all_goals repeat' apply And.intro
  all_goals first | exact True.intro | omega | with_reducible rfl | with_reducible assumption | exact hn | rfl

def mayI (L : List Int) : Bool := decide (L.length ≤ 255) && L.all okI
def encV (L : List Int) : List UInt8 := if mayI L = true then encP (natL L) else []

def enc7Spec : Spec
  | [.fs s n l] => some (.tu [.c (str (encV (unI l))), .c (.bool (mayI (unI l)))], [s = 1, l = rowN (unI l), n = (unI l).length])
  | _ => none

theorem enc_at (L : List Int) : ∃ hs lp fuel p, LpOK Ext0 Try.prog lp ∧ outcome Try.prog 10 (aBody Try.prog clEn hs lp fuel 10 [.fs 1 L.length (rowN L)] []) = some (.tu [.c (str (encV L)), .c (.bool (mayI L))], p) ∧ allP p := by
  unfold encV mayI
  by_cases hl : L.length ≤ 255
  · rw [decide_eq_true hl, Bool.true_and]
    have w1 := ef_walk L hl
    cases hok : L.all okI with
    | false =>
      rw [hok] at w1
      obtain ⟨hh, p, e, hp⟩ := enm2_all (rowN L) L.length hl
      exact ⟨_, _, _, _, lpBy_cons lpBy_nil List.nodup_nil w1, e, hp⟩
    | true =>
      rw [hok] at w1
      have hN := rowN_nats hok
      have hlen : (natL L).length = L.length := by simp [natL]
      rw [hN, ← hlen] at w1 ⊢
      have hs := natL_ok hok
      have hf : (fsB L).length = (bas (natL L)).length := by simp [fsB, byt]
      have hfl := fsB_len L L.length
      rw [List.take_length] at hfl
      rw [hf] at w1 hfl
      have hE : encP (natL L) = fsB L ++ (hyp (bas (natL L)).length ++ wrT (encE (natL L) ((natL L).length + 1) 128 (bas (natL L)).length 0) (bas (natL L)).length 72 true) := rfl
      by_cases hp : 0 < (bas (natL L)).length
      · have w2 := eo_walk (natL L) (by omega) hs (fsB L ++ [45]) (by simp only [List.length_append, List.length_singleton]; omega)
        obtain ⟨hh, p, e, hq⟩ := enm3T_all (natL L) (fsB L) (encP (natL L)) (bas (natL L)).length (by omega) hp (by omega)
        have : fsB L ++ [45] ++ wrT (encE (natL L) ((natL L).length + 1) 128 (bas (natL L)).length 0) (bas (natL L)).length 72 true = encP (natL L) := by
          rw [hE]; unfold hyp; rw [if_pos hp, List.append_assoc]
        rw [this] at w2
        exact ⟨_, _, _, _, lpBy_cons (lpBy_cons lpBy_nil List.nodup_nil w2) List.nodup_nil w1, e, hq⟩
      · have w2 := eo_walk (natL L) (by omega) hs (fsB L) (by omega)
        obtain ⟨hh, p, e, hq⟩ := enm3F_all (natL L) (fsB L) (encP (natL L)) (bas (natL L)).length (by omega) (by omega) (by omega)
        have : fsB L ++ wrT (encE (natL L) ((natL L).length + 1) 128 (bas (natL L)).length 0) (bas (natL L)).length 72 true = encP (natL L) := by
          rw [hE]; unfold hyp; rw [if_neg hp, List.nil_append]
        rw [this] at w2
        exact ⟨_, _, _, _, lpBy_cons (lpBy_cons lpBy_nil List.nodup_nil w2) List.nodup_nil w1, e, hq⟩
  · rw [decide_eq_false hl, Bool.false_and]
    obtain ⟨hh, p, e, hp⟩ := enm1_all (rowN L) L.length (by omega)
    exact ⟨_, _, _, _, lpBy_nil, e, hp⟩

theorem renc_ok : SpecOK Try.prog 10 enc7Spec := by
  refine spec_of mixed clEn_ok fun args r q hs hq => ?_
  unfold enc7Spec at hs
  split at hs
  · rename_i s n l
    simp only [Option.some.injEq, Prod.mk.injEq] at hs
    obtain ⟨rfl, rfl⟩ := hs
    obtain ⟨rfl, h2, h3, _⟩ := hq
    generalize unI l = L at *
    subst h2 h3
    exact enc_at L
  · simp at hs

end Go.Proofs.Ytljgmgbjfjhjmaa
