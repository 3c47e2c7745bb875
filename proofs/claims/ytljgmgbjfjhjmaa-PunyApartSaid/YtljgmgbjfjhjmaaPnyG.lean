/- Signs as letters: the document's own rows of texts. -/
import Derived.Test.YtljgmgbjfjhjmaaPnyF
import Derived.Test.YtljgmgbjfjhjmaaLevO
namespace Go.Proofs.Ytljgmgbjfjhjmaa
open Go.RowKit Pny
set_option linter.unusedVariables false
set_option linter.unusedSimpArgs false

theorem nats_app (a b : List Nat) : nats (a ++ b) = nats a ++ nats b := by simp [nats]
theorem nats_take (a : List Nat) (n : Nat) : (nats a).take n = nats (a.take n) := by simp [nats, List.map_take]
theorem nats_drop (a : List Nat) (n : Nat) : (nats a).drop n = nats (a.drop n) := by simp [nats, List.map_drop]

/-! Where the last hyphen stands. -/
def dcA (l : List UInt8) (cut i : Nat) : St := ⟨frame 111 [(0, .c (str l)), (4, .c (.slice none 0 0)), (5, .c (.int .i64 cut)), (6, .c (.int .i64 i))], []⟩
def dcB (l : List UInt8) (cut : Nat) : St := ⟨frame 111 [(0, .c (str l)), (4, .c (.slice none 0 0)), (5, .c (.int .i64 cut))], []⟩

theorem dcaA_all (l : List UInt8) (cut i : Nat) (hi : i < l.length) (hc : (((l.getD i 0).toNat : Nat) : Int) = 45) (hl : l.length ≤ 100000) (hi2 : i ≤ 200000) : Round Ext0 Try.prog cl0 (lbody Try.prog 12 4) (dcA l cut i) (.normal) (dcA l i (i + 1)) := by
  refine ⟨⟨true, (bs [(19, true), (25, true)])⟩, _, 60, ⟨[], [0, 4, 5, 6], []⟩, [decide ((↑i : Int) < ↑l.length) = true,
 (0 : Int) ≤ ↑i,
 (↑i : Int) < ↑l.length,
 ((↑(l.getD i 0).toNat : Int) == (45 : Int)) = true,
 (IntKind.i64.min : Int) ≤ ↑i + 1,
 (↑i + 1 : Int) ≤ IntKind.i64.max], lpBy_nil, by decide, by kernel_rfl, ?_⟩
  all_goals try simp (disch := omega) only [std]
  all_goals repeat' apply And.intro
  all_goals first | exact True.intro | omega | with_reducible rfl | with_reducible assumption | exact hc | rfl


theorem dcaB_all (l : List UInt8) (cut i : Nat) (hi : i < l.length) (hc : ¬ (((l.getD i 0).toNat : Nat) : Int) = 45) (hl : l.length ≤ 100000) (hi2 : i ≤ 200000) : Round Ext0 Try.prog cl0 (lbody Try.prog 12 4) (dcA l cut i) (.normal) (dcA l cut (i + 1)) := by
  refine ⟨⟨true, (bs [(19, true), (25, false)])⟩, _, 60, ⟨[], [0, 4, 5, 6], []⟩, [decide ((↑i : Int) < ↑l.length) = true,
 (0 : Int) ≤ ↑i,
 (↑i : Int) < ↑l.length,
 ((↑(l.getD i 0).toNat : Int) == (45 : Int)) = false,
 (IntKind.i64.min : Int) ≤ ↑i + 1,
 (↑i + 1 : Int) ≤ IntKind.i64.max], lpBy_nil, by decide, by kernel_rfl, ?_⟩
  all_goals try simp (disch := omega) only [std]
  all_goals repeat' apply And.intro
  all_goals first | exact True.intro | omega | with_reducible rfl | with_reducible assumption | exact hc | rfl


theorem dcaZ_all (l : List UInt8) (cut i : Nat) (hi : ¬ i < l.length) (hl : l.length ≤ 100000) (hi2 : i ≤ 200000) : Round Ext0 Try.prog cl0 (lbody Try.prog 12 4) (dcA l cut i) (.exit 0) (dcB l cut) := by
  refine ⟨⟨true, (bs [(19, false)])⟩, _, 60, ⟨[], [0, 4, 5], []⟩, [decide ((↑i : Int) < ↑l.length) = false], lpBy_nil, by decide, by kernel_rfl, ?_⟩
  all_goals try simp (disch := omega) only [std]
  all_goals repeat' apply And.intro
  all_goals first | exact True.intro | omega | with_reducible rfl | with_reducible assumption | rfl

theorem cutG_cons (c : UInt8) (r : List UInt8) (i cur : Nat) : cutG (c :: r) i cur = cutG r (i + 1) (if c = 45 ∧ 1 ≤ i then i else cur) := rfl

theorem cutG_one (l : List UInt8) : cutG (l.drop 1) 1 0 = cutD l := by
  cases l with
  | nil => rfl
  | cons c r =>
    unfold cutD
    rw [cutG_cons, if_neg (by omega)]
    rfl

theorem dca_walk (l : List UInt8) (hl : l.length ≤ 100000) : Tri Ext0 Try.prog (.loop (lbody Try.prog 12 4)) (dcA l 0 1) (.exit 0) (dcB l (cutD l)) := by
  refine loop_inv mixed cl0_ok (fun x : Nat × Nat => dcA l x.1 x.2) (fun x => 1 ≤ x.2 ∧ x.2 ≤ 100001 ∧ cutG (l.drop x.2) x.2 x.1 = cutD l) (fun x => l.length - x.2) (fun x hx => ?_) (0, 1) ⟨Nat.le_refl _, by simp only; omega, cutG_one l⟩
  obtain ⟨cut, i⟩ := x
  obtain ⟨h1, h2, h3⟩ := hx
  simp only at h1 h2 h3 ⊢
  by_cases hi : i < l.length
  · rw [drop_cons l i hi, cutG_cons] at h3
    by_cases hc : l.getD i 0 = 45
    · rw [if_pos ⟨hc, h1⟩] at h3
      exact .inl ⟨(i, i + 1), ⟨by simp only; omega, by simp only; omega, h3⟩, by simp only; omega, dcaA_all l cut i hi (by rw [hc]; rfl) hl (by omega)⟩
    · rw [if_neg (fun e => hc e.1)] at h3
      exact .inl ⟨(cut, i + 1), ⟨by simp only; omega, by simp only; omega, h3⟩, by simp only; omega, dcaB_all l cut i hi (u8_ne (k := 45) (by decide) hc) hl (by omega)⟩
  · rw [List.drop_of_length_le (by omega)] at h3
    have h3 : cut = cutD l := h3
    rw [← h3]
    exact .inr ⟨by simp, dcaZ_all l cut i hi hl (by omega)⟩

/-! The first signs. -/
def dcC (l : List UInt8) (cut i : Nat) : St := ⟨frame 111 [(0, .c (str l)), (4, .sl 0 0 i), (5, .c (.int .i64 cut)), (7, .c (.int .i64 i))], [some ⟨3, false, nats ((l.take i).map UInt8.toNat)⟩]⟩
def dcD (l : List UInt8) (cut : Nat) (out : List Nat) : St := ⟨frame 111 [(0, .c (str l)), (4, .sl 0 0 out.length), (5, .c (.int .i64 cut))], [some ⟨3, false, nats out⟩]⟩
def dcN : St := ⟨frame 111 [(2, .sl 0 0 0), (3, .c (.bool false))], [some ⟨3, false, []⟩]⟩

theorem take_cells (l : List UInt8) (i : Nat) (h : i < l.length) : List.take i (nats ((l.take i).map UInt8.toNat)) ++ [.c (.int .i64 ((l.getD i 0).toNat : Nat))] = nats ((l.take (i + 1)).map UInt8.toNat) := by
  rw [take_succ_getD l i 0 h, List.map_append, nats_app, List.take_of_length_le (by simp [nats, List.length_take]; omega)]
  rfl

theorem dccA_all (l : List UInt8) (cut i : Nat) (hi : i < cut) (hc : ¬ (((l.getD i 0).toNat : Nat) : Int) > 127) (ht : List.take i (nats ((l.take i).map UInt8.toNat)) ++ [.c (.int .i64 ((l.getD i 0).toNat : Nat))] = nats ((l.take (i + 1)).map UInt8.toNat)) (hl : l.length ≤ 100000) (hcl : cut ≤ l.length) (hw : IntKind.i64.wrap ((l.getD i 0).toNat : Nat) = ((l.getD i 0).toNat : Nat)) (hnl : (nats ((l.take i).map UInt8.toNat)).length = i) : Round Ext0 Try.prog cl0 (lbody Try.prog 12 9) (dcC l cut i) (.normal) (dcC l cut (i + 1)) := by
  refine ⟨⟨true, (bs [(29, true), (35, false)] ++ [(42, ⟨.sl 2 0 (i + 1), some (nats ((l.take (i + 1)).map UInt8.toNat))⟩)])⟩, _, 60, ⟨[], [0, 4, 5, 7], [2]⟩, [decide ((↑i : Int) < ↑cut) = true,
 (0 : Int) ≤ ↑i,
 (↑i : Int) < ↑l.length,
 (decide ((↑(l.getD i 0).toNat : Int) > (127 : Int))) = false,
 (0 : Int) ≤ ↑i,
 (↑i : Int) < ↑l.length,
 (((1 : Nat) : Nat) ≤ ((1 : Nat))),
 (((i + (1 : Nat)) * (8 : Nat) : Nat) ≤ ((140737488355328 : Nat))),
 ((i + (1 : Nat) : Nat) ≤ ((4611686018427387904 : Nat))),
 ((i : Nat) ≤ ((nats (List.map UInt8.toNat (List.take i l))).length)),
 avEq ((AV.sl 2 0 (i + (1 : Nat)))) ((AV.sl 2 0 (i + (1 : Nat)))),
 ((List.take i (nats (List.map UInt8.toNat (List.take i l))) ++ List.take (1 : Nat) (List.drop (0 : Nat) ([AV.c (Value.int IntKind.i64 (IntKind.i64.wrap (↑(l.getD i 0).toNat : Int)))] ++ [])) : List AV)) = (nats (List.map UInt8.toNat (List.take (i + (1 : Nat)) l))),
 (IntKind.i64.min : Int) ≤ ↑i + 1,
 (↑i + 1 : Int) ≤ IntKind.i64.max], lpBy_nil, by decide, Eq.trans (b := some ((.normal : Exit), ⟨frame 111 [(0, (AV.c ((str (l))))), (4, (AV.sl 0 0 (i + (1 : Nat)))), (5, (AV.c ((Value.int .i64 ((↑cut : Int)))))), (7, (AV.c ((Value.int .i64 ((↑i : Int) + (1 : Int))))))], [(.some ⟨3, false, (nats (List.map UInt8.toNat (List.take (i + (1 : Nat)) l)))⟩)]⟩, _)) (by kernel_rfl) (congrArg (fun S : St => some ((.normal : Exit), S, _)) ?_), ?_⟩
  any_goals (
    rfl
    done)
  all_goals try simp (disch := omega) only [std, hw, hnl]
  all_goals repeat' apply And.intro
  all_goals first | exact True.intro | omega | with_reducible rfl | with_reducible assumption | exact ht | exact hw | exact hnl | rfl


theorem dccB_all (l : List UInt8) (cut i : Nat) (hi : i < cut) (hc : (((l.getD i 0).toNat : Nat) : Int) > 127) (hl : l.length ≤ 100000) (hcl : cut ≤ l.length) (hw : IntKind.i64.wrap ((l.getD i 0).toNat : Nat) = ((l.getD i 0).toNat : Nat)) (hnl : (nats ((l.take i).map UInt8.toNat)).length = i) : Round Ext0 Try.prog cl0 (lbody Try.prog 12 9) (dcC l cut i) (.ret) (dcN) := by
  refine ⟨⟨true, (bs [(29, true), (35, true)] ++ [])⟩, _, 60, ⟨[(2, 3)], [2, 3], [1]⟩, [decide ((↑i : Int) < ↑cut) = true,
 (0 : Int) ≤ ↑i,
 (↑i : Int) < ↑l.length,
 (decide ((↑(l.getD i 0).toNat : Int) > (127 : Int))) = true], lpBy_nil, by decide, Eq.trans (b := some ((.ret : Exit), ⟨frame 111 [(2, (AV.sl 0 0 0)), (3, (AV.c ((Value.bool false))))], [(.some ⟨3, false, []⟩)]⟩, _)) (by kernel_rfl) (congrArg (fun S : St => some ((.ret : Exit), S, _)) ?_), ?_⟩
  any_goals (
    rfl
    done)
  all_goals try simp (disch := omega) only [std, hw, hnl]
  all_goals repeat' apply And.intro
  all_goals first | exact True.intro | omega | with_reducible rfl | with_reducible assumption | exact hw | exact hnl | rfl


theorem dccZ_all (l : List UInt8) (cut i : Nat) (hi : i = cut) (hn2 : (List.map UInt8.toNat (List.take i l)).length = i) (hl : l.length ≤ 100000) (hcl : cut ≤ l.length) (hw : IntKind.i64.wrap ((l.getD i 0).toNat : Nat) = ((l.getD i 0).toNat : Nat)) (hnl : (nats ((l.take i).map UInt8.toNat)).length = i) : Round Ext0 Try.prog cl0 (lbody Try.prog 12 9) (dcC l cut i) (.exit 2) (dcD l cut (List.map UInt8.toNat (List.take i l))) := by
  refine ⟨⟨true, (bs [(29, false)] ++ [])⟩, _, 60, ⟨[], [0, 4, 5], [0]⟩, [decide ((↑i : Int) < ↑cut) = false], lpBy_nil, by decide, Eq.trans (b := some ((.exit 2 : Exit), ⟨frame 111 [(0, (AV.c ((str (l))))), (4, (AV.sl 0 0 i)), (5, (AV.c ((Value.int .i64 ((↑cut : Int))))))], [(.some ⟨3, false, (nats (List.map UInt8.toNat (List.take i l)))⟩)]⟩, _)) (by kernel_rfl) (congrArg (fun S : St => some ((.exit 2 : Exit), S, _)) ?_), ?_⟩
  any_goals (
    (unfold dcD; rw [hn2])
    done)
  all_goals try simp (disch := omega) only [std, hw, hnl]
  all_goals repeat' apply And.intro
  all_goals first | exact True.intro | omega | with_reducible rfl | with_reducible assumption | exact hi | exact hn2 | exact hw | exact hnl | rfl

/-- Where the loop over the first signs ends. -/
def loB (l : List UInt8) (cut : Nat) : Bool := (l.take cut).all fun c => decide (c.toNat < 128)

theorem all_at {l : List UInt8} {cut i : Nat} (h : loB l cut = true) (hi : i < cut) (hl : cut ≤ l.length) : (l.getD i 0).toNat < 128 := by
  have := List.all_eq_true.1 h (l.getD i 0) (by
    have e : (l.take cut)[i]'(by rw [List.length_take]; omega) = l.getD i 0 := by simp [List.getD, show i < l.length by omega]
    rw [← e]
    exact List.getElem_mem _)
  simpa using this

theorem dcc_walk (l : List UInt8) (cut : Nat) (hl : l.length ≤ 100000) (hc : cut ≤ l.length) : Tri Ext0 Try.prog (.loop (lbody Try.prog 12 9)) (dcC l cut 0) (if loB l cut = true then .exit 2 else .ret) (if loB l cut = true then dcD l cut ((l.take cut).map UInt8.toNat) else dcN) := by
  have hw : ∀ i, IntKind.i64.wrap ((l.getD i 0).toNat : Nat) = ((l.getD i 0).toNat : Nat) := fun i => by
    have := (l.getD i 0).toNat_lt
    exact i64_wrap (by omega) (by omega)
  have hnl : ∀ i, i ≤ cut → (nats ((l.take i).map UInt8.toNat)).length = i := fun i hi => by
    simp only [nats_length, List.length_map, List.length_take]; omega
  refine loop_inv mixed cl0_ok (fun i => dcC l cut i) (fun i => i ≤ cut ∧ ∀ j, j < i → (l.getD j 0).toNat < 128) (fun i => cut - i) (fun i hx => ?_) 0 ⟨Nat.zero_le _, fun j hj => absurd hj (Nat.not_lt_zero _)⟩
  obtain ⟨h1, h2⟩ := hx
  by_cases hi : i < cut
  · have ht := take_cells l i (by omega)
    by_cases hb : (((l.getD i 0).toNat : Nat) : Int) > 127
    · have : loB l cut = false := by
        cases h : loB l cut with
        | false => rfl
        | true => have := all_at h hi hc; omega
      rw [this]
      exact .inr ⟨by simp, dccB_all l cut i hi hb hl hc (hw i) (hnl i h1)⟩
    · refine .inl ⟨i + 1, ⟨hi, fun j hj => ?_⟩, by omega, dccA_all l cut i hi hb ht hl hc (hw i) (hnl i h1)⟩
      by_cases hj2 : j < i
      · exact h2 j hj2
      · have : j = i := by omega
        subst this; omega
  · have he : i = cut := by omega
    subst he
    have : loB l i = true := by
      refine List.all_eq_true.2 fun c hc => ?_
      obtain ⟨j, hj, rfl⟩ := List.getElem_of_mem hc
      rw [List.length_take] at hj
      have := h2 j (by omega)
      simpa [List.getD, show j < l.length by omega] using this
    rw [this]
    exact .inr ⟨by simp, dccZ_all l i i rfl (by simp only [List.length_map, List.length_take]; omega) hl hc (hw i) (hnl i (Nat.le_refl _))⟩

/-! The numbers. -/
noncomputable def clDc : CallT := aCall Try.prog (sgBy [(32, rdSpec), (25, signISpec), (28, adSpec)]) 500 8
theorem clDc_ok : CallOK Try.prog clDc := aCall_ok mixed (sgBy_cons rnb_ok (sgBy_cons rsg_ok (sgBy_cons rad_ok sgBy_nil))) 500 8

def dcS (l : List UInt8) (cut : Nat) (out : List Nat) (p c b : Nat) (f : Bool) : St := ⟨frame 111 [(0, .c (str l)), (4, .sl 0 0 out.length), (5, .c (.int .i64 cut)), (8, .c (.int .i64 p)), (9, .c (.int .i64 c)), (10, .c (.int .i64 b)), (11, .c (.bool f))], [some ⟨3, false, nats out⟩]⟩
def dcE (out : List Nat) : St := ⟨frame 111 [(4, .sl 0 0 out.length)], [some ⟨3, false, nats out⟩]⟩

theorem notb1 {b : Bool} (h : (!b) = false) : b = true := by cases b <;> simp_all

theorem dcsA_all (l : List UInt8) (cut : Nat) (out o2 : List Nat) (p c b : Nat) (f : Bool) (d k c2 p2 q b2 : Nat) (hi : cut < l.length) (hk : k = 0) (hl : l.length ≤ 100000) (hol : out.length ≤ 100000) (hcl : cut ≤ 100000) (hp : p ≤ 100000) (hc : c ≤ 1114112) (hb : b ≤ 100000) (hd : (rdV (rdB b 0 1 0 (l.drop cut))).1 = d) (hk2 : (rdV (rdB b 0 1 0 (l.drop cut))).2 = k) (hd2 : d ≤ 2147483647) (hkl : k ≤ 100000) (hnl : (nats out).length = out.length) : Round Ext0 Try.prog clDc (lbody Try.prog 12 20) (dcS l cut out p c b f) (.ret) (dcN) := by
  refine ⟨⟨true, (bs [(50, true), (62, true)] ++ [(57, ⟨.c (.int .i64 d), none⟩), (58, ⟨.c (.int .i64 k), none⟩), (65, ⟨.c (.int .i64 (cut + k : Nat)), none⟩), (68, ⟨.c (.int .i64 (p + d : Nat)), none⟩), (73, ⟨.c (.int .i64 q), some []⟩), (74, ⟨.c (.int .i64 c2), none⟩), (78, ⟨.c (.int .i64 p2), some []⟩), (106, ⟨.c (.int .i64 b2), none⟩), (90, ⟨.sl 2 0 p2, some (nats (out.take p2))⟩), (94, ⟨.sl 4 0 (p2 + 1), some (nats (out.take p2 ++ [c2]))⟩), (99, ⟨.sl 5 0 o2.length, some (nats o2)⟩)] ++ [])⟩, _, 60, ⟨[(2, 3)], [2, 3], [1]⟩, [decide ((↑cut : Int) < ↑l.length) = true,
 (0 : Int) ≤ ↑cut,
 (↑cut : Int) ≤ ↑l.length,
 (↑l.length : Int) ≤ ↑l.length,
 (0 : Int) ≤ ↑b,
 (↑b : Int) ≤ 100000,
 (((List.drop cut (List.take l.length l)).length : Nat) ≤ ((100000 : Nat))),
 (((↑(rdV (rdB (↑b : Int).toNat (0 : Nat) (1 : Nat) (0 : Nat) (sb { data := { toList := List.drop (↑cut : Int).toNat (List.take (↑(sb { data := { toList := l } }).length : Int).toNat (sb { data := { toList := l } })) } }))).fst : Int) : Int)) = ((↑d : Int)),
 (((↑(rdV (rdB (↑b : Int).toNat (0 : Nat) (1 : Nat) (0 : Nat) (sb { data := { toList := List.drop (↑cut : Int).toNat (List.take (↑(sb { data := { toList := l } }).length : Int).toNat (sb { data := { toList := l } })) } }))).snd : Int) : Int)) = ((↑k : Int)),
 ((↑k : Int) == (0 : Int)) = true], lpBy_nil, by decide, by kernel_rfl, ?_⟩
  all_goals try simp (disch := omega) only [std, hd, hk2, hnl, List.length_drop, List.nil_append, List.append_nil, Nat.sub_zero, Nat.zero_add, Nat.add_zero, toNat_succ7]
  all_goals repeat' apply And.intro
  all_goals first | exact True.intro | omega | with_reducible rfl | with_reducible assumption | exact congrArg (fun n : Nat => (n : Int)) hb2 | exact hok (notb1 hc81) | exact sl_eq (by omega) | exact hk | exact hd | exact hk2 | exact hnl | rfl


theorem dcsB_all (l : List UInt8) (cut : Nat) (out o2 : List Nat) (p c b : Nat) (f : Bool) (d k c2 p2 q b2 : Nat) (hi : cut < l.length) (hk : ¬ k = 0) (hl : l.length ≤ 100000) (hol : out.length ≤ 100000) (hcl : cut ≤ 100000) (hp : p ≤ 100000) (hc : c ≤ 1114112) (hb : b ≤ 100000) (hd : (rdV (rdB b 0 1 0 (l.drop cut))).1 = d) (hk2 : (rdV (rdB b 0 1 0 (l.drop cut))).2 = k) (hd2 : d ≤ 2147483647) (hkl : k ≤ 100000) (hnl : (nats out).length = out.length) (hq : IntKind.i64.wrap (((p + d : Nat) : Int).tdiv ((out.length + 1 : Nat) : Int)) = (q : Nat)) (hq2 : q ≤ 2147583647) (hcq : c + q = c2) (hr : (((p + d : Nat) : Int).tmod ((out.length + 1 : Nat) : Int)) = (p2 : Nat)) (hok : okI (c2 : Nat) = true → (out.length : Int) ≥ 255) : Round Ext0 Try.prog clDc (lbody Try.prog 12 20) (dcS l cut out p c b f) (.ret) (dcN) := by
  refine bcase (!okI (↑c2 : Int)) (fun hc81 => ⟨⟨true, bs [(81, true)] ++ (bs [(50, true), (62, false), (85, true)] ++ [(57, ⟨.c (.int .i64 d), none⟩), (58, ⟨.c (.int .i64 k), none⟩), (65, ⟨.c (.int .i64 (cut + k : Nat)), none⟩), (68, ⟨.c (.int .i64 (p + d : Nat)), none⟩), (73, ⟨.c (.int .i64 q), some []⟩), (74, ⟨.c (.int .i64 c2), none⟩), (78, ⟨.c (.int .i64 p2), some []⟩), (106, ⟨.c (.int .i64 b2), none⟩), (90, ⟨.sl 2 0 p2, some (nats (out.take p2))⟩), (94, ⟨.sl 4 0 (p2 + 1), some (nats (out.take p2 ++ [c2]))⟩), (99, ⟨.sl 5 0 o2.length, some (nats o2)⟩)] ++ [])⟩, _, 60, ⟨[(2, 3)], [2, 3], [1]⟩, [decide ((↑cut : Int) < ↑l.length) = true,
 (0 : Int) ≤ ↑cut,
 (↑cut : Int) ≤ ↑l.length,
 (↑l.length : Int) ≤ ↑l.length,
 (0 : Int) ≤ ↑b,
 (↑b : Int) ≤ 100000,
 (((List.drop cut (List.take l.length l)).length : Nat) ≤ ((100000 : Nat))),
 (((↑(rdV (rdB (↑b : Int).toNat (0 : Nat) (1 : Nat) (0 : Nat) (sb { data := { toList := List.drop (↑cut : Int).toNat (List.take (↑(sb { data := { toList := l } }).length : Int).toNat (sb { data := { toList := l } })) } }))).fst : Int) : Int)) = ((↑d : Int)),
 (((↑(rdV (rdB (↑b : Int).toNat (0 : Nat) (1 : Nat) (0 : Nat) (sb { data := { toList := List.drop (↑cut : Int).toNat (List.take (↑(sb { data := { toList := l } }).length : Int).toNat (sb { data := { toList := l } })) } }))).snd : Int) : Int)) = ((↑k : Int)),
 ((↑k : Int) == (0 : Int)) = false,
 (IntKind.i64.min : Int) ≤ ↑cut + ↑k,
 (↑cut + ↑k : Int) ≤ IntKind.i64.max,
 (↑cut + ↑k : Int) = ↑(cut + k),
 (IntKind.i64.min : Int) ≤ ↑p + ↑d,
 (↑p + ↑d : Int) ≤ IntKind.i64.max,
 (↑p + ↑d : Int) = ↑(p + d),
 (IntKind.i64.min : Int) ≤ ↑out.length + 1,
 (↑out.length + 1 : Int) ≤ IntKind.i64.max,
 (↑out.length : Int) + (1 : Int) ≠ (0 : Int),
 ((IntKind.i64.wrap ((↑(p + d) : Int).tdiv ((↑out.length : Int) + (1 : Int))) : Int)) = ((↑q : Int)),
 ((([ck ((↑out.length : Int) + (1 : Int) ≠ (0 : Int))], AV.c (Value.int IntKind.i64 (IntKind.i64.wrap ((↑(p + d) : Int).tdiv ((↑out.length : Int) + (1 : Int))))), Cmd.nop).snd.snd.cells : List AV)) = ([]),
 (IntKind.i64.min : Int) ≤ ↑c + ↑q,
 (↑c + ↑q : Int) ≤ IntKind.i64.max,
 (↑c + ↑q : Int) = ↑c2,
 (IntKind.i64.min : Int) ≤ ↑out.length + 1,
 (↑out.length + 1 : Int) ≤ IntKind.i64.max,
 (↑out.length : Int) + (1 : Int) ≠ (0 : Int),
 (((↑(p + d) : Int).tmod ((↑out.length : Int) + (1 : Int)) : Int)) = ((↑p2 : Int)),
 ((([ck ((↑out.length : Int) + (1 : Int) ≠ (0 : Int))], AV.c (Value.int IntKind.i64 ((↑(p + d) : Int).tmod ((↑out.length : Int) + (1 : Int)))), Cmd.nop).snd.snd.cells : List AV)) = ([]),
 (!okI (↑c2 : Int)) = true,
 (true) = true], lpBy_nil, by decide, by kernel_rfl, ?_⟩)
    (fun hc81 => ⟨⟨true, bs [(81, false)] ++ (bs [(50, true), (62, false), (85, true)] ++ [(57, ⟨.c (.int .i64 d), none⟩), (58, ⟨.c (.int .i64 k), none⟩), (65, ⟨.c (.int .i64 (cut + k : Nat)), none⟩), (68, ⟨.c (.int .i64 (p + d : Nat)), none⟩), (73, ⟨.c (.int .i64 q), some []⟩), (74, ⟨.c (.int .i64 c2), none⟩), (78, ⟨.c (.int .i64 p2), some []⟩), (106, ⟨.c (.int .i64 b2), none⟩), (90, ⟨.sl 2 0 p2, some (nats (out.take p2))⟩), (94, ⟨.sl 4 0 (p2 + 1), some (nats (out.take p2 ++ [c2]))⟩), (99, ⟨.sl 5 0 o2.length, some (nats o2)⟩)] ++ [])⟩, _, 60, ⟨[(2, 3)], [2, 3], [1]⟩, [decide ((↑cut : Int) < ↑l.length) = true,
 (0 : Int) ≤ ↑cut,
 (↑cut : Int) ≤ ↑l.length,
 (↑l.length : Int) ≤ ↑l.length,
 (0 : Int) ≤ ↑b,
 (↑b : Int) ≤ 100000,
 (((List.drop cut (List.take l.length l)).length : Nat) ≤ ((100000 : Nat))),
 (((↑(rdV (rdB (↑b : Int).toNat (0 : Nat) (1 : Nat) (0 : Nat) (sb { data := { toList := List.drop (↑cut : Int).toNat (List.take (↑(sb { data := { toList := l } }).length : Int).toNat (sb { data := { toList := l } })) } }))).fst : Int) : Int)) = ((↑d : Int)),
 (((↑(rdV (rdB (↑b : Int).toNat (0 : Nat) (1 : Nat) (0 : Nat) (sb { data := { toList := List.drop (↑cut : Int).toNat (List.take (↑(sb { data := { toList := l } }).length : Int).toNat (sb { data := { toList := l } })) } }))).snd : Int) : Int)) = ((↑k : Int)),
 ((↑k : Int) == (0 : Int)) = false,
 (IntKind.i64.min : Int) ≤ ↑cut + ↑k,
 (↑cut + ↑k : Int) ≤ IntKind.i64.max,
 (↑cut + ↑k : Int) = ↑(cut + k),
 (IntKind.i64.min : Int) ≤ ↑p + ↑d,
 (↑p + ↑d : Int) ≤ IntKind.i64.max,
 (↑p + ↑d : Int) = ↑(p + d),
 (IntKind.i64.min : Int) ≤ ↑out.length + 1,
 (↑out.length + 1 : Int) ≤ IntKind.i64.max,
 (↑out.length : Int) + (1 : Int) ≠ (0 : Int),
 ((IntKind.i64.wrap ((↑(p + d) : Int).tdiv ((↑out.length : Int) + (1 : Int))) : Int)) = ((↑q : Int)),
 ((([ck ((↑out.length : Int) + (1 : Int) ≠ (0 : Int))], AV.c (Value.int IntKind.i64 (IntKind.i64.wrap ((↑(p + d) : Int).tdiv ((↑out.length : Int) + (1 : Int))))), Cmd.nop).snd.snd.cells : List AV)) = ([]),
 (IntKind.i64.min : Int) ≤ ↑c + ↑q,
 (↑c + ↑q : Int) ≤ IntKind.i64.max,
 (↑c + ↑q : Int) = ↑c2,
 (IntKind.i64.min : Int) ≤ ↑out.length + 1,
 (↑out.length + 1 : Int) ≤ IntKind.i64.max,
 (↑out.length : Int) + (1 : Int) ≠ (0 : Int),
 (((↑(p + d) : Int).tmod ((↑out.length : Int) + (1 : Int)) : Int)) = ((↑p2 : Int)),
 ((([ck ((↑out.length : Int) + (1 : Int) ≠ (0 : Int))], AV.c (Value.int IntKind.i64 ((↑(p + d) : Int).tmod ((↑out.length : Int) + (1 : Int)))), Cmd.nop).snd.snd.cells : List AV)) = ([]),
 (!okI (↑c2 : Int)) = false,
 decide ((↑out.length : Int) ≥ 255) = true], lpBy_nil, by decide, by kernel_rfl, ?_⟩)
  all_goals try simp only [dz] at hc81
  all_goals try simp (disch := omega) only [std, hd, hk2, hnl, List.length_drop, List.nil_append, List.append_nil, Nat.sub_zero, Nat.zero_add, Nat.add_zero, toNat_succ7]
  all_goals repeat' apply And.intro
  all_goals first | exact True.intro | omega | with_reducible rfl | with_reducible assumption | exact congrArg (fun n : Nat => (n : Int)) hb2 | exact hok (notb1 hc81) | exact sl_eq (by omega) | exact hk | exact hd | exact hk2 | exact hnl | exact hq | exact hcq | exact hr | rfl


theorem dcsC_all (l : List UInt8) (cut : Nat) (out o2 : List Nat) (p c b : Nat) (f : Bool) (d k c2 p2 q b2 : Nat) (hi : cut < l.length) (hk : ¬ k = 0) (hl : l.length ≤ 100000) (hol : out.length ≤ 100000) (hcl : cut ≤ 100000) (hp : p ≤ 100000) (hc : c ≤ 1114112) (hb : b ≤ 100000) (hd : (rdV (rdB b 0 1 0 (l.drop cut))).1 = d) (hk2 : (rdV (rdB b 0 1 0 (l.drop cut))).2 = k) (hd2 : d ≤ 2147483647) (hkl : k ≤ 100000) (hnl : (nats out).length = out.length) (hq : IntKind.i64.wrap (((p + d : Nat) : Int).tdiv ((out.length + 1 : Nat) : Int)) = (q : Nat)) (hq2 : q ≤ 2147583647) (hcq : c + q = c2) (hr : (((p + d : Nat) : Int).tmod ((out.length + 1 : Nat) : Int)) = (p2 : Nat)) (hok : okI (c2 : Nat) = true) (h255 : out.length < 255) (hpl : p2 ≤ out.length) (h1 : (nats out).take p2 = nats (out.take p2)) (h2 : (nats (out.take p2)).take p2 ++ [.c (.int .i64 (c2 : Nat))] = nats (out.take p2 ++ [c2])) (h3 : (nats (out.take p2 ++ [c2])).take (p2 + 1) ++ ((nats out).drop p2).take (out.length - p2) = nats o2) (h4 : (nats (out.take p2)).length = p2) (h5 : (nats (out.take p2 ++ [c2])).length = p2 + 1) (ho2 : out.length + 1 = o2.length) (hb2 : adp d (out.length + 1) f = b2) : Round Ext0 Try.prog clDc (lbody Try.prog 12 20) (dcS l cut out p c b f) (.normal) (dcS l (cut + k) o2 (p2 + 1) c2 b2 false) := by
  refine ⟨⟨true, (bs [(50, true), (62, false), (80, true), (84, false)] ++ [(57, ⟨.c (.int .i64 d), none⟩), (58, ⟨.c (.int .i64 k), none⟩), (65, ⟨.c (.int .i64 (cut + k : Nat)), none⟩), (68, ⟨.c (.int .i64 (p + d : Nat)), none⟩), (73, ⟨.c (.int .i64 q), some []⟩), (74, ⟨.c (.int .i64 c2), none⟩), (78, ⟨.c (.int .i64 p2), some []⟩), (106, ⟨.c (.int .i64 b2), none⟩), (90, ⟨.sl 2 0 p2, some (nats (out.take p2))⟩), (94, ⟨.sl 4 0 (p2 + 1), some (nats (out.take p2 ++ [c2]))⟩), (99, ⟨.sl 5 0 o2.length, some (nats o2)⟩)] ++ [])⟩, _, 60, ⟨[], [0, 4, 5, 8, 9, 10, 11], [5]⟩, [decide ((↑cut : Int) < ↑l.length) = true,
 (0 : Int) ≤ ↑cut,
 (↑cut : Int) ≤ ↑l.length,
 (↑l.length : Int) ≤ ↑l.length,
 (0 : Int) ≤ ↑b,
 (↑b : Int) ≤ 100000,
 (((List.drop cut (List.take l.length l)).length : Nat) ≤ ((100000 : Nat))),
 (((↑(rdV (rdB (↑b : Int).toNat (0 : Nat) (1 : Nat) (0 : Nat) (sb { data := { toList := List.drop (↑cut : Int).toNat (List.take (↑(sb { data := { toList := l } }).length : Int).toNat (sb { data := { toList := l } })) } }))).fst : Int) : Int)) = ((↑d : Int)),
 (((↑(rdV (rdB (↑b : Int).toNat (0 : Nat) (1 : Nat) (0 : Nat) (sb { data := { toList := List.drop (↑cut : Int).toNat (List.take (↑(sb { data := { toList := l } }).length : Int).toNat (sb { data := { toList := l } })) } }))).snd : Int) : Int)) = ((↑k : Int)),
 ((↑k : Int) == (0 : Int)) = false,
 (IntKind.i64.min : Int) ≤ ↑cut + ↑k,
 (↑cut + ↑k : Int) ≤ IntKind.i64.max,
 (↑cut + ↑k : Int) = ↑(cut + k),
 (IntKind.i64.min : Int) ≤ ↑p + ↑d,
 (↑p + ↑d : Int) ≤ IntKind.i64.max,
 (↑p + ↑d : Int) = ↑(p + d),
 (IntKind.i64.min : Int) ≤ ↑out.length + 1,
 (↑out.length + 1 : Int) ≤ IntKind.i64.max,
 (↑out.length : Int) + (1 : Int) ≠ (0 : Int),
 ((IntKind.i64.wrap ((↑(p + d) : Int).tdiv ((↑out.length : Int) + (1 : Int))) : Int)) = ((↑q : Int)),
 ((([ck ((↑out.length : Int) + (1 : Int) ≠ (0 : Int))], AV.c (Value.int IntKind.i64 (IntKind.i64.wrap ((↑(p + d) : Int).tdiv ((↑out.length : Int) + (1 : Int))))), Cmd.nop).snd.snd.cells : List AV)) = ([]),
 (IntKind.i64.min : Int) ≤ ↑c + ↑q,
 (↑c + ↑q : Int) ≤ IntKind.i64.max,
 (↑c + ↑q : Int) = ↑c2,
 (IntKind.i64.min : Int) ≤ ↑out.length + 1,
 (↑out.length + 1 : Int) ≤ IntKind.i64.max,
 (↑out.length : Int) + (1 : Int) ≠ (0 : Int),
 (((↑(p + d) : Int).tmod ((↑out.length : Int) + (1 : Int)) : Int)) = ((↑p2 : Int)),
 ((([ck ((↑out.length : Int) + (1 : Int) ≠ (0 : Int))], AV.c (Value.int IntKind.i64 ((↑(p + d) : Int).tmod ((↑out.length : Int) + (1 : Int)))), Cmd.nop).snd.snd.cells : List AV)) = ([]),
 (okI (↑c2 : Int)) = true,
 decide ((↑out.length : Int) ≥ 255) = false,
 (0 : Int) ≤ 0,
 (0 : Int) ≤ ↑p2,
 (↑p2 : Int) ≤ ↑out.length,
 ((p2 - Int.toNat (0 : Int) + (0 : Nat) : Nat) ≤ ((nats out).length)),
 ((((0 : Nat) + (p2 - Int.toNat (0 : Int))) * (8 : Nat) : Nat) ≤ ((140737488355328 : Nat))),
 (((0 : Nat) + (p2 - Int.toNat (0 : Int)) : Nat) ≤ ((4611686018427387904 : Nat))),
 (((0 : Nat) : Nat) ≤ ((0 : Nat))),
 avEq ((AV.sl 2 0 ((0 : Nat) + (p2 - Int.toNat (0 : Int))))) ((AV.sl 2 0 p2)),
 ((List.take (0 : Nat) [] ++ List.take (p2 - Int.toNat (0 : Int)) (List.drop (0 : Nat) (nats out)) : List AV)) = (nats (List.take p2 out)),
 (((1 : Nat) : Nat) ≤ ((1 : Nat))),
 (((p2 + (1 : Nat)) * (8 : Nat) : Nat) ≤ ((140737488355328 : Nat))),
 ((p2 + (1 : Nat) : Nat) ≤ ((4611686018427387904 : Nat))),
 ((p2 : Nat) ≤ ((nats (List.take p2 out)).length)),
 avEq ((AV.sl 4 0 (p2 + (1 : Nat)))) ((AV.sl 4 0 (p2 + (1 : Nat)))),
 ((List.take p2 (nats (List.take p2 out)) ++ List.take (1 : Nat) (List.drop (0 : Nat) ([AV.c (Value.int IntKind.i64 (↑c2 : Int))] ++ [])) : List AV)) = (nats (List.take p2 out ++ [c2])),
 (0 : Int) ≤ ↑p2,
 (↑p2 : Int) ≤ ↑out.length,
 (↑out.length : Int) ≤ ↑out.length,
 ((out.length - p2 + (p2 + (0 : Nat)) : Nat) ≤ ((nats out).length)),
 (((p2 + (1 : Nat) + (out.length - p2)) * (8 : Nat) : Nat) ≤ ((140737488355328 : Nat))),
 ((p2 + (1 : Nat) + (out.length - p2) : Nat) ≤ ((4611686018427387904 : Nat))),
 ((p2 + (1 : Nat) : Nat) ≤ ((nats (List.take p2 out ++ [c2])).length)),
 avEq ((AV.sl 5 0 (p2 + (1 : Nat) + (out.length - p2)))) ((AV.sl 5 0 o2.length)),
 ((List.take (p2 + (1 : Nat)) (nats (List.take p2 out ++ [c2])) ++ List.take (out.length - p2) (List.drop (p2 + (0 : Nat)) (nats out)) : List AV)) = (nats o2),
 (IntKind.i64.min : Int) ≤ ↑p2 + 1,
 (↑p2 + 1 : Int) ≤ IntKind.i64.max,
 (IntKind.i64.min : Int) ≤ ↑out.length + 1,
 (↑out.length + 1 : Int) ≤ IntKind.i64.max,
 (0 : Int) ≤ ↑d,
 (↑d : Int) ≤ 2147483647,
 (1 : Int) ≤ ↑out.length + 1,
 (↑out.length + 1 : Int) ≤ 1000,
 (((↑(adp d ((↑out.length : Int) + (1 : Int)).toNat f) : Int) : Int)) = ((↑b2 : Int))], lpBy_nil, by decide, by kernel_rfl, ?_⟩
  all_goals try simp (disch := omega) only [std, hd, hk2, hnl, List.length_drop, List.nil_append, List.append_nil, Nat.sub_zero, Nat.zero_add, Nat.add_zero, toNat_succ7 , h1, h4, h5]
  all_goals repeat' apply And.intro
  all_goals first | exact True.intro | omega | with_reducible rfl | with_reducible assumption | exact congrArg (fun n : Nat => (n : Int)) hb2 | exact hok (notb1 hc81) | exact sl_eq (by omega) | exact hk | exact hd | exact hk2 | exact hnl | exact hq | exact hcq | exact hr | exact hok | exact h1 | exact h2 | exact h3 | exact h4 | exact h5 | exact ho2 | exact hb2 | rfl


theorem dcsZ_all (l : List UInt8) (cut : Nat) (out o2 : List Nat) (p c b : Nat) (f : Bool) (d k c2 p2 q b2 : Nat) (hi : ¬ cut < l.length) (hl : l.length ≤ 100000) (hol : out.length ≤ 100000) (hcl : cut ≤ 100000) (hp : p ≤ 100000) (hc : c ≤ 1114112) (hb : b ≤ 100000) (hd : (rdV (rdB b 0 1 0 (l.drop cut))).1 = d) (hk2 : (rdV (rdB b 0 1 0 (l.drop cut))).2 = k) (hd2 : d ≤ 2147483647) (hkl : k ≤ 100000) (hnl : (nats out).length = out.length) : Round Ext0 Try.prog clDc (lbody Try.prog 12 20) (dcS l cut out p c b f) (.exit 4) (dcE out) := by
  refine ⟨⟨true, (bs [(50, false)] ++ [(57, ⟨.c (.int .i64 d), none⟩), (58, ⟨.c (.int .i64 k), none⟩), (65, ⟨.c (.int .i64 (cut + k : Nat)), none⟩), (68, ⟨.c (.int .i64 (p + d : Nat)), none⟩), (73, ⟨.c (.int .i64 q), some []⟩), (74, ⟨.c (.int .i64 c2), none⟩), (78, ⟨.c (.int .i64 p2), some []⟩), (106, ⟨.c (.int .i64 b2), none⟩), (90, ⟨.sl 2 0 p2, some (nats (out.take p2))⟩), (94, ⟨.sl 4 0 (p2 + 1), some (nats (out.take p2 ++ [c2]))⟩), (99, ⟨.sl 5 0 o2.length, some (nats o2)⟩)] ++ [])⟩, _, 60, ⟨[], [4], [0]⟩, [decide ((↑cut : Int) < ↑l.length) = false], lpBy_nil, by decide, by kernel_rfl, ?_⟩
  all_goals try simp (disch := omega) only [std, hd, hk2, hnl, List.length_drop, List.nil_append, List.append_nil, Nat.sub_zero, Nat.zero_add, Nat.add_zero, toNat_succ7]
  all_goals repeat' apply And.intro
  all_goals first | exact True.intro | omega | with_reducible rfl | with_reducible assumption | exact congrArg (fun n : Nat => (n : Int)) hb2 | exact hok (notb1 hc81) | exact sl_eq (by omega) | exact hd | exact hk2 | exact hnl | rfl

theorem put_cells1 (out : List Nat) (p c : Nat) (h : (nats out).length = p) : (nats out).take p ++ [.c (.int .i64 (c : Nat))] = nats (out ++ [c]) := by
  rw [List.take_of_length_le (by omega), nats_app]; rfl
theorem put_cells (out : List Nat) (p c : Nat) (h : p ≤ out.length) : (nats (out.take p ++ [c])).take (p + 1) ++ ((nats out).drop p).take (out.length - p) = nats (out.take p ++ c :: out.drop p) := by
  have e1 : (nats (out.take p ++ [c])).take (p + 1) = nats (out.take p ++ [c]) := List.take_of_length_le (by rw [nats_length, List.length_append, List.length_take, List.length_singleton]; omega)
  have e2 : ((nats out).drop p).take (out.length - p) = nats (out.drop p) := by rw [nats_drop]; exact List.take_of_length_le (by rw [nats_length, List.length_drop]; exact Nat.le_refl _)
  rw [e1, e2, ← nats_app, List.append_assoc]
  rfl

theorem okI_nat (c : Nat) : okI ((c : Nat) : Int) = okC c := by
  unfold okI
  rw [Int.toNat_natCast, decide_eq_true (Int.natCast_nonneg c), Bool.true_and]

theorem rdV_some {b : Nat} {s : List UInt8} {d k : Nat} (h : rdB b 0 1 0 s = some (d, k)) : rdV (rdB b 0 1 0 s) = (d, k) ∧ d ≤ 2147483647 ∧ 1 ≤ k ∧ k ≤ s.length := by
  obtain ⟨e, h1, h2, h3, _, h5⟩ := le_rd b s s.length 0 1 0 d k (Nat.le_refl _) h
  have := h5 (Nat.le_refl _)
  exact ⟨by rw [h]; rfl, by omega, h2, h3⟩

def dcX (o : Option (List Nat)) : Exit := if o.isSome = true then .exit 4 else .ret
def dcY (o : Option (List Nat)) : St := if o.isSome = true then dcE (o.getD []) else dcN

theorem decT_nil (g : Nat) (x : Stt) (b : Nat) (f : Bool) : decT g x b f [] = some x.out := by cases g <;> rfl

theorem dcs_walk (l : List UInt8) (hl : l.length ≤ 100000) (cut0 b0 : Nat) (x0 : Stt) (f0 : Bool) (h1 : cut0 ≤ l.length) (h2 : x0.p ≤ x0.out.length) (h3 : x0.out.length ≤ 100000) (h4 : x0.c ≤ 1114111) (h5 : b0 ≤ 100000) {o : Option (List Nat)} (ho : decT l.length x0 b0 f0 (l.drop cut0) = o) :
    Tri Ext0 Try.prog (.loop (lbody Try.prog 12 20)) (dcS l cut0 x0.out x0.p x0.c b0 f0) (dcX o) (dcY o) := by
  refine loop_inv mixed clDc_ok (fun x : Nat × Stt × Nat × Bool × Nat => dcS l x.1 x.2.1.out x.2.1.p x.2.1.c x.2.2.1 x.2.2.2.1) (fun x => x.1 ≤ l.length ∧ x.2.1.p ≤ x.2.1.out.length ∧ x.2.1.out.length ≤ 100000 ∧ x.2.1.c ≤ 1114111 ∧ x.2.2.1 ≤ 100000 ∧ (l.drop x.1).length ≤ x.2.2.2.2 ∧ decT x.2.2.2.2 x.2.1 x.2.2.1 x.2.2.2.1 (l.drop x.1) = o) (fun x => l.length - x.1) (fun x hx => ?_) (cut0, x0, b0, f0, l.length) ⟨h1, h2, h3, h4, h5, by simp only [List.length_drop]; omega, ho⟩
  clear ho h1 h2 h3 h4 h5
  obtain ⟨cut, x, b, f, g⟩ := x
  obtain ⟨h1, h2, h3, h4, h5, h6, h7⟩ := hx
  simp only at h1 h2 h3 h4 h5 h6 h7 ⊢
  have hnl := nats_length x.out
  by_cases hi : cut < l.length
  · have hne : l.drop cut ≠ [] := by
      intro e
      have := congrArg List.length e
      simp only [List.length_drop, List.length_nil] at this
      omega
    obtain ⟨g, rfl⟩ : ∃ m, g = m + 1 := ⟨g - 1, by simp only [List.length_drop] at h6; omega⟩
    rw [decT_cons _ _ _ _ hne] at h7
    cases hr : rdB b 0 1 0 (l.drop cut) with
    | none =>
      rw [hr] at h7
      subst h7
      exact .inr ⟨by simp [dcX], dcsA_all l cut x.out [] x.p x.c b f 0 0 0 0 0 0 hi rfl hl h3 (by omega) (by omega) (by omega) h5 (by rw [hr]; rfl) (by rw [hr]; rfl) (by omega) (by omega) hnl⟩
    | some y =>
      obtain ⟨d, k⟩ := y
      rw [hr] at h7
      simp only at h7
      obtain ⟨r1, r2, r3, r4⟩ := rdV_some hr
      simp only [List.length_drop] at r4 h6
      have hq2 := Nat.div_le_self (x.p + d) (x.out.length + 1)
      have hp2 := Nat.mod_lt (x.p + d) (show 0 < x.out.length + 1 by omega)
      have hD := okI_nat (x.c + (x.p + d) / (x.out.length + 1))
      cases hok : okD x d with
      | false =>
        rw [hok, if_neg (by simp)] at h7
        subst h7
        refine .inr ⟨by simp [dcX], dcsB_all l cut x.out [] x.p x.c b f d k _ _ _ 0 hi (by omega) hl h3 (by omega) (by omega) (by omega) h5 (by rw [r1]) (by rw [r1]) r2 (by omega) hnl (tdNat _ (by omega)) (by omega) rfl (tmNat _ _) (fun e => ?_)⟩
        rw [hD] at e
        unfold okD at hok
        rw [e, Bool.true_and] at hok
        have := of_decide_eq_false hok
        omega
      | true =>
        rw [hok, if_pos rfl] at h7
        have hok2 := hok
        unfold okD at hok2
        rw [Bool.and_eq_true, decide_eq_true_eq] at hok2
        obtain ⟨k1, k2⟩ := hok2
        have kc : x.c + (x.p + d) / (x.out.length + 1) ≤ 1114111 := by
          unfold okC at k1
          rw [Bool.and_eq_true, decide_eq_true_eq] at k1
          exact k1.1
        have hb2 := adp_le f (okD_le hok).1 (n := x.out.length + 1)
        have hlen := stD_len x d
        refine .inl ⟨(cut + k, stD x d, adp d (x.out.length + 1) f, false, g), ⟨by simp only; omega, by simp only; rw [hlen]; show (x.p + d) % (x.out.length + 1) + 1 ≤ _; omega, by simp only; omega, kc, by simp only; omega, by simp only [List.length_drop]; omega, by simp only; rw [← List.drop_drop]; exact h7⟩, by simp only; omega, ?_⟩
        simp only
        have e1 : List.take ((x.p + d) % (x.out.length + 1)) (nats x.out) = nats (x.out.take ((x.p + d) % (x.out.length + 1))) := nats_take _ _
        have e0 : (x.out.take ((x.p + d) % (x.out.length + 1))).length = (x.p + d) % (x.out.length + 1) := by rw [List.length_take]; omega
        have e4 : (nats (x.out.take ((x.p + d) % (x.out.length + 1)))).length = (x.p + d) % (x.out.length + 1) := by rw [nats_length, e0]
        have e5 : (nats (x.out.take ((x.p + d) % (x.out.length + 1)) ++ [x.c + (x.p + d) / (x.out.length + 1)])).length = (x.p + d) % (x.out.length + 1) + 1 := by rw [nats_length, List.length_append, e0]; rfl
        exact dcsC_all l cut x.out (stD x d).out x.p x.c b f d k _ _ _ _ hi (by omega) hl h3 (by omega) (by omega) (by omega) h5 (by rw [r1]) (by rw [r1]) r2 (by omega) hnl (tdNat _ (by omega)) (by omega) rfl (tmNat _ _) (hD.trans k1) k2 (by omega) e1
          (put_cells1 _ _ _ e4) (put_cells x.out _ _ (by omega)) e4 e5 (by omega) rfl
  · rw [List.drop_of_length_le (by omega), decT_nil] at h7
    subst h7
    exact .inr ⟨by simp [dcX], dcsZ_all l cut x.out [] x.p x.c b f 0 (rdV (rdB b 0 1 0 (l.drop cut))).2 0 0 0 0 hi hl h3 (by omega) (by omega) (by omega) h5 (by rw [List.drop_of_length_le (by omega)]; rfl) rfl (by omega) (by rw [List.drop_of_length_le (by omega)]; show 0 ≤ 100000; omega) hnl⟩

/-! Whole texts. -/
def decL (s : List UInt8) : List Nat := (decP s).getD []

noncomputable def dcLp (l : List UInt8) (cut : Nat) (e2 : Exit) (R2 : St) (cut1 : Nat) (out : List Nat) (e3 : Exit) (R3 : St) : List (Nat × Lp) :=
  [(4, ⟨lbody Try.prog 12 4, ⟨[], [0, 4, 5, 6], []⟩, dcA l 0 1, .exit 0, dcB l cut⟩),
   (9, ⟨lbody Try.prog 12 9, ⟨[(4, 3)], [0, 4, 5, 7], [0]⟩, dcC l cut 0, e2, R2⟩),
   (20, ⟨lbody Try.prog 12 20, ⟨[], [0, 4, 5, 8, 9, 10, 11], [0]⟩, dcS l cut1 out 0 128 72 true, e3, R3⟩)]

theorem dcm1_all (l : List UInt8) (cut : Nat) (out o2 : List Nat) (e3 : Exit) (R3 : St) (hl : l.length ≤ 100000) : ∃ (h : Hints) (p : List Prop), outTell (⟨[], [0, 1], [0]⟩) (aBody Try.prog clDc h (lpBy (dcLp l cut .ret dcN l.length out e3 R3)) 60 12 ([.c (str l)]) []) = some (.tu [.sl 0 0 0, .c (.bool false)], [some ⟨3, false, []⟩], p) ∧ allP p := by
  refine ⟨⟨true, bs []⟩, [((lbody Try.prog (12 : FuncId) (4 : Nat) : Go.Code)) = (lbody Try.prog (12 : FuncId) (4 : Nat)),
 ((dcA l (0 : Nat) (1 : Nat) : Go.Proofs.Ytljgmgbjfjhjmaa.St)) = (dcA l (0 : Nat) (1 : Nat)),
 ((lbody Try.prog (12 : FuncId) (9 : Nat) : Go.Code)) = (lbody Try.prog (12 : FuncId) (9 : Nat)),
 ((dcC l cut (0 : Nat) : Go.Proofs.Ytljgmgbjfjhjmaa.St)) = (dcC l cut (0 : Nat))], by kernel_rfl, ?_⟩
  all_goals try simp (disch := omega) only [std]
  all_goals repeat' apply And.intro
  all_goals first | exact True.intro | omega | with_reducible rfl | with_reducible assumption | rfl


theorem dcm2T_all (l : List UInt8) (cut : Nat) (out o2 : List Nat) (e3 : Exit) (R3 : St) (hl : l.length ≤ 100000) (hcl : cut ≤ 100000) (h0 : 0 < cut) : ∃ (h : Hints) (p : List Prop), outTell (⟨[], [0, 1], [0]⟩) (aBody Try.prog clDc h (lpBy (dcLp l cut (.exit 2) (dcD l cut out) (cut + 1) out .ret dcN)) 60 12 ([.c (str l)]) []) = some (.tu [.sl 0 0 0, .c (.bool false)], [some ⟨3, false, []⟩], p) ∧ allP p := by
  refine ⟨⟨true, (bs [(44, true)])⟩, [((lbody Try.prog (12 : FuncId) (4 : Nat) : Go.Code)) = (lbody Try.prog (12 : FuncId) (4 : Nat)),
 ((dcA l (0 : Nat) (1 : Nat) : Go.Proofs.Ytljgmgbjfjhjmaa.St)) = (dcA l (0 : Nat) (1 : Nat)),
 ((lbody Try.prog (12 : FuncId) (9 : Nat) : Go.Code)) = (lbody Try.prog (12 : FuncId) (9 : Nat)),
 ((dcC l cut (0 : Nat) : Go.Proofs.Ytljgmgbjfjhjmaa.St)) = (dcC l cut (0 : Nat)),
 decide ((↑cut : Int) > 0) = true,
 (IntKind.i64.min : Int) ≤ ↑cut + 1,
 (↑cut + 1 : Int) ≤ IntKind.i64.max,
 ((lbody Try.prog (12 : FuncId) (20 : Nat) : Go.Code)) = (lbody Try.prog (12 : FuncId) (20 : Nat)),
 ((dcS l (cut + (1 : Nat)) out (0 : Nat) (128 : Nat) (72 : Nat) true : Go.Proofs.Ytljgmgbjfjhjmaa.St)) = (dcS l (cut + (1 : Nat)) out (0 : Nat) (128 : Nat) (72 : Nat) true)], by kernel_rfl, ?_⟩
  all_goals try simp (disch := omega) only [std]
  all_goals repeat' apply And.intro
  all_goals first | exact True.intro | omega | with_reducible rfl | with_reducible assumption | rfl


theorem dcm3T_all (l : List UInt8) (cut : Nat) (out o2 : List Nat) (e3 : Exit) (R3 : St) (hl : l.length ≤ 100000) (hcl : cut ≤ 100000) (h0 : 0 < cut) (ho : (o2.length : Int) > 255) : ∃ (h : Hints) (p : List Prop), outTell (⟨[(0, 3)], [0, 1], [1]⟩) (aBody Try.prog clDc h (lpBy (dcLp l cut (.exit 2) (dcD l cut out) (cut + 1) out (.exit 4) (dcE o2))) 60 12 ([.c (str l)]) []) = some (.tu [.sl 0 0 0, .c (.bool false)], [some ⟨3, false, []⟩], p) ∧ allP p := by
  refine ⟨⟨true, (bs [(44, true), (109, true)])⟩, [((lbody Try.prog (12 : FuncId) (4 : Nat) : Go.Code)) = (lbody Try.prog (12 : FuncId) (4 : Nat)),
 ((dcA l (0 : Nat) (1 : Nat) : Go.Proofs.Ytljgmgbjfjhjmaa.St)) = (dcA l (0 : Nat) (1 : Nat)),
 ((lbody Try.prog (12 : FuncId) (9 : Nat) : Go.Code)) = (lbody Try.prog (12 : FuncId) (9 : Nat)),
 ((dcC l cut (0 : Nat) : Go.Proofs.Ytljgmgbjfjhjmaa.St)) = (dcC l cut (0 : Nat)),
 decide ((↑cut : Int) > 0) = true,
 (IntKind.i64.min : Int) ≤ ↑cut + 1,
 (↑cut + 1 : Int) ≤ IntKind.i64.max,
 ((lbody Try.prog (12 : FuncId) (20 : Nat) : Go.Code)) = (lbody Try.prog (12 : FuncId) (20 : Nat)),
 ((dcS l (cut + (1 : Nat)) out (0 : Nat) (128 : Nat) (72 : Nat) true : Go.Proofs.Ytljgmgbjfjhjmaa.St)) = (dcS l (cut + (1 : Nat)) out (0 : Nat) (128 : Nat) (72 : Nat) true),
 decide ((↑o2.length : Int) > 255) = true], by kernel_rfl, ?_⟩
  all_goals try simp (disch := omega) only [std]
  all_goals repeat' apply And.intro
  all_goals first | exact True.intro | omega | with_reducible rfl | with_reducible assumption | rfl


theorem dcm4T_all (l : List UInt8) (cut : Nat) (out o2 : List Nat) (e3 : Exit) (R3 : St) (hl : l.length ≤ 100000) (hcl : cut ≤ 100000) (h0 : 0 < cut) (ho : ¬ (o2.length : Int) > 255) : ∃ (h : Hints) (p : List Prop), outTell (⟨[], [0, 1], [0]⟩) (aBody Try.prog clDc h (lpBy (dcLp l cut (.exit 2) (dcD l cut out) (cut + 1) out (.exit 4) (dcE o2))) 60 12 ([.c (str l)]) []) = some (.tu [.sl 0 0 o2.length, .c (.bool true)], [some ⟨3, false, nats o2⟩], p) ∧ allP p := by
  refine ⟨⟨true, (bs [(44, true), (109, false)])⟩, [((lbody Try.prog (12 : FuncId) (4 : Nat) : Go.Code)) = (lbody Try.prog (12 : FuncId) (4 : Nat)),
 ((dcA l (0 : Nat) (1 : Nat) : Go.Proofs.Ytljgmgbjfjhjmaa.St)) = (dcA l (0 : Nat) (1 : Nat)),
 ((lbody Try.prog (12 : FuncId) (9 : Nat) : Go.Code)) = (lbody Try.prog (12 : FuncId) (9 : Nat)),
 ((dcC l cut (0 : Nat) : Go.Proofs.Ytljgmgbjfjhjmaa.St)) = (dcC l cut (0 : Nat)),
 decide ((↑cut : Int) > 0) = true,
 (IntKind.i64.min : Int) ≤ ↑cut + 1,
 (↑cut + 1 : Int) ≤ IntKind.i64.max,
 ((lbody Try.prog (12 : FuncId) (20 : Nat) : Go.Code)) = (lbody Try.prog (12 : FuncId) (20 : Nat)),
 ((dcS l (cut + (1 : Nat)) out (0 : Nat) (128 : Nat) (72 : Nat) true : Go.Proofs.Ytljgmgbjfjhjmaa.St)) = (dcS l (cut + (1 : Nat)) out (0 : Nat) (128 : Nat) (72 : Nat) true),
 decide ((↑o2.length : Int) > 255) = false], by kernel_rfl, ?_⟩
  all_goals try simp (disch := omega) only [std]
  all_goals repeat' apply And.intro
  all_goals first | exact True.intro | omega | with_reducible rfl | with_reducible assumption | rfl


theorem dcm2F_all (l : List UInt8) (cut : Nat) (out o2 : List Nat) (e3 : Exit) (R3 : St) (hl : l.length ≤ 100000) (hcl : cut ≤ 100000) (h0 : cut = 0) : ∃ (h : Hints) (p : List Prop), outTell (⟨[], [0, 1], [0]⟩) (aBody Try.prog clDc h (lpBy (dcLp l cut (.exit 2) (dcD l cut out) cut out .ret dcN)) 60 12 ([.c (str l)]) []) = some (.tu [.sl 0 0 0, .c (.bool false)], [some ⟨3, false, []⟩], p) ∧ allP p := by
  refine ⟨⟨true, (bs [(44, false)])⟩, [((lbody Try.prog (12 : FuncId) (4 : Nat) : Go.Code)) = (lbody Try.prog (12 : FuncId) (4 : Nat)),
 ((dcA l (0 : Nat) (1 : Nat) : Go.Proofs.Ytljgmgbjfjhjmaa.St)) = (dcA l (0 : Nat) (1 : Nat)),
 ((lbody Try.prog (12 : FuncId) (9 : Nat) : Go.Code)) = (lbody Try.prog (12 : FuncId) (9 : Nat)),
 ((dcC l cut (0 : Nat) : Go.Proofs.Ytljgmgbjfjhjmaa.St)) = (dcC l cut (0 : Nat)),
 decide ((↑cut : Int) > 0) = false,
 ((lbody Try.prog (12 : FuncId) (20 : Nat) : Go.Code)) = (lbody Try.prog (12 : FuncId) (20 : Nat)),
 ((dcS l cut out (0 : Nat) (128 : Nat) (72 : Nat) true : Go.Proofs.Ytljgmgbjfjhjmaa.St)) = (dcS l cut out (0 : Nat) (128 : Nat) (72 : Nat) true)], by kernel_rfl, ?_⟩
  all_goals try simp (disch := omega) only [std]
  all_goals repeat' apply And.intro
  all_goals first | exact True.intro | omega | with_reducible rfl | with_reducible assumption | exact h0 | rfl


theorem dcm3F_all (l : List UInt8) (cut : Nat) (out o2 : List Nat) (e3 : Exit) (R3 : St) (hl : l.length ≤ 100000) (hcl : cut ≤ 100000) (h0 : cut = 0) (ho : (o2.length : Int) > 255) : ∃ (h : Hints) (p : List Prop), outTell (⟨[(0, 3)], [0, 1], [1]⟩) (aBody Try.prog clDc h (lpBy (dcLp l cut (.exit 2) (dcD l cut out) cut out (.exit 4) (dcE o2))) 60 12 ([.c (str l)]) []) = some (.tu [.sl 0 0 0, .c (.bool false)], [some ⟨3, false, []⟩], p) ∧ allP p := by
  refine ⟨⟨true, (bs [(44, false), (109, true)])⟩, [((lbody Try.prog (12 : FuncId) (4 : Nat) : Go.Code)) = (lbody Try.prog (12 : FuncId) (4 : Nat)),
 ((dcA l (0 : Nat) (1 : Nat) : Go.Proofs.Ytljgmgbjfjhjmaa.St)) = (dcA l (0 : Nat) (1 : Nat)),
 ((lbody Try.prog (12 : FuncId) (9 : Nat) : Go.Code)) = (lbody Try.prog (12 : FuncId) (9 : Nat)),
 ((dcC l cut (0 : Nat) : Go.Proofs.Ytljgmgbjfjhjmaa.St)) = (dcC l cut (0 : Nat)),
 decide ((↑cut : Int) > 0) = false,
 ((lbody Try.prog (12 : FuncId) (20 : Nat) : Go.Code)) = (lbody Try.prog (12 : FuncId) (20 : Nat)),
 ((dcS l cut out (0 : Nat) (128 : Nat) (72 : Nat) true : Go.Proofs.Ytljgmgbjfjhjmaa.St)) = (dcS l cut out (0 : Nat) (128 : Nat) (72 : Nat) true),
 decide ((↑o2.length : Int) > 255) = true], by kernel_rfl, ?_⟩
  all_goals try simp (disch := omega) only [std]
  all_goals repeat' apply And.intro
  all_goals first | exact True.intro | omega | with_reducible rfl | with_reducible assumption | exact h0 | rfl


theorem dcm4F_all (l : List UInt8) (cut : Nat) (out o2 : List Nat) (e3 : Exit) (R3 : St) (hl : l.length ≤ 100000) (hcl : cut ≤ 100000) (h0 : cut = 0) (ho : ¬ (o2.length : Int) > 255) : ∃ (h : Hints) (p : List Prop), outTell (⟨[], [0, 1], [0]⟩) (aBody Try.prog clDc h (lpBy (dcLp l cut (.exit 2) (dcD l cut out) cut out (.exit 4) (dcE o2))) 60 12 ([.c (str l)]) []) = some (.tu [.sl 0 0 o2.length, .c (.bool true)], [some ⟨3, false, nats o2⟩], p) ∧ allP p := by
  refine ⟨⟨true, (bs [(44, false), (109, false)])⟩, [((lbody Try.prog (12 : FuncId) (4 : Nat) : Go.Code)) = (lbody Try.prog (12 : FuncId) (4 : Nat)),
 ((dcA l (0 : Nat) (1 : Nat) : Go.Proofs.Ytljgmgbjfjhjmaa.St)) = (dcA l (0 : Nat) (1 : Nat)),
 ((lbody Try.prog (12 : FuncId) (9 : Nat) : Go.Code)) = (lbody Try.prog (12 : FuncId) (9 : Nat)),
 ((dcC l cut (0 : Nat) : Go.Proofs.Ytljgmgbjfjhjmaa.St)) = (dcC l cut (0 : Nat)),
 decide ((↑cut : Int) > 0) = false,
 ((lbody Try.prog (12 : FuncId) (20 : Nat) : Go.Code)) = (lbody Try.prog (12 : FuncId) (20 : Nat)),
 ((dcS l cut out (0 : Nat) (128 : Nat) (72 : Nat) true : Go.Proofs.Ytljgmgbjfjhjmaa.St)) = (dcS l cut out (0 : Nat) (128 : Nat) (72 : Nat) true),
 decide ((↑o2.length : Int) > 255) = false], by kernel_rfl, ?_⟩
  all_goals try simp (disch := omega) only [std]
  all_goals repeat' apply And.intro
  all_goals first | exact True.intro | omega | with_reducible rfl | with_reducible assumption | exact h0 | rfl

theorem cutD_le (l : List UInt8) : cutD l = 0 ∨ cutD l < l.length := by
  rcases cutG_spec l 0 0 with h | ⟨j, h1, h2, _, _⟩
  · exact .inl h
  · unfold cutD; exact .inr (by omega)

def dec7Spec : HSpec
  | [.c (.string s)], [] => some (.tu [.sl 0 0 (decL (sb s)).length, .c (.bool (decP (sb s)).isSome)], [some ⟨3, false, nats (decL (sb s))⟩], [(sb s).length ≤ 100000])
  | _, _ => none

theorem nd0 : [0].Nodup := by decide

theorem rdec_ok : HSpecOK Try.prog 12 dec7Spec := by
  refine hspec_new mixed clDc_ok fun args hp r hp' q hs hq => ?_
  unfold dec7Spec at hs
  split at hs
  · rename_i s
    obtain ⟨⟨⟨l⟩⟩, rfl⟩ : ∃ b : ByteArray, b = s := ⟨s, rfl⟩
    simp only [Option.some.injEq, Prod.mk.injEq] at hs
    obtain ⟨rfl, rfl, rfl⟩ := hs
    have hl : l.length ≤ 100000 := hq.1
    refine ⟨rfl, ?_⟩
    simp only [sb_mk]
    have hc := cutD_le l
    have hcl : cutD l ≤ l.length := by omega
    have w1 := dca_walk l hl
    have w2 := dcc_walk l (cutD l) hl hcl
    have hb : decP l = if loB l (cutD l) = true then (match decT l.length ⟨(l.take (cutD l)).map UInt8.toNat, 0, 128⟩ 72 true (if 0 < cutD l then l.drop (cutD l + 1) else l) with
      | some l => if l.length ≤ 255 then some l else none
      | none => none) else none := rfl
    unfold decL
    cases h2 : loB l (cutD l) with
    | false =>
      rw [h2] at w2 hb
      rw [hb]
      have w3 := dcs_walk l hl l.length 72 ⟨[], 0, 128⟩ true (Nat.le_refl _) (Nat.le_refl _) (by simp) (by simp) (by omega) (o := some []) (by rw [List.drop_length, decT_nil])
      obtain ⟨hh, p, e, hp⟩ := dcm1_all l (cutD l) [] [] _ _ hl
      exact ⟨_, _, _, _, _, (by decide), lpBy_cons (lpBy_cons (lpBy_cons lpBy_nil nd0 w3) nd0 w2) List.nodup_nil w1, e, hp⟩
    | true =>
      rw [h2] at w2 hb
      have hx : (⟨(l.take (cutD l)).map UInt8.toNat, 0, 128⟩ : Stt).out.length ≤ 100000 := by simp only [List.length_map, List.length_take]; omega
      by_cases hz : 0 < cutD l
      · rw [if_pos rfl, if_pos hz] at hb
        have w3 := dcs_walk l hl (cutD l + 1) 72 ⟨(l.take (cutD l)).map UInt8.toNat, 0, 128⟩ true (by omega) (Nat.zero_le _) hx (by simp) (by omega) rfl
        cases ho : decT l.length ⟨(l.take (cutD l)).map UInt8.toNat, 0, 128⟩ 72 true (l.drop (cutD l + 1)) with
        | none =>
          rw [ho] at hb w3
          rw [hb]
          obtain ⟨hh, p, e, hp⟩ := dcm2T_all l (cutD l) ((l.take (cutD l)).map UInt8.toNat) [] .ret dcN hl (by omega) hz
          exact ⟨_, _, _, _, _, (by decide), lpBy_cons (lpBy_cons (lpBy_cons lpBy_nil nd0 w3) nd0 w2) List.nodup_nil w1, e, hp⟩
        | some o2 =>
          rw [ho] at hb w3
          by_cases h255 : o2.length ≤ 255
          · have hb : decP l = some o2 := hb.trans (if_pos h255)
            rw [hb]
            obtain ⟨hh, p, e, hp⟩ := dcm4T_all l (cutD l) ((l.take (cutD l)).map UInt8.toNat) o2 .ret dcN hl (by omega) hz (by omega)
            exact ⟨_, _, _, _, _, (by decide), lpBy_cons (lpBy_cons (lpBy_cons lpBy_nil nd0 w3) nd0 w2) List.nodup_nil w1, e, hp⟩
          · have hb : decP l = none := hb.trans (if_neg h255)
            rw [hb]
            obtain ⟨hh, p, e, hp⟩ := dcm3T_all l (cutD l) ((l.take (cutD l)).map UInt8.toNat) o2 .ret dcN hl (by omega) hz (by omega)
            exact ⟨_, _, _, _, _, (by decide), lpBy_cons (lpBy_cons (lpBy_cons lpBy_nil nd0 w3) nd0 w2) List.nodup_nil w1, e, hp⟩
      · rw [if_pos rfl, if_neg hz] at hb
        have hz : cutD l = 0 := by omega
        have w3 := dcs_walk l hl (cutD l) 72 ⟨(l.take (cutD l)).map UInt8.toNat, 0, 128⟩ true (by omega) (Nat.zero_le _) hx (by simp) (by omega) rfl
        have hd : l.drop (cutD l) = l := by rw [hz]; rfl
        rw [hd] at w3
        cases ho : decT l.length ⟨(l.take (cutD l)).map UInt8.toNat, 0, 128⟩ 72 true l with
        | none =>
          rw [ho] at hb w3
          rw [hb]
          obtain ⟨hh, p, e, hp⟩ := dcm2F_all l (cutD l) ((l.take (cutD l)).map UInt8.toNat) [] .ret dcN hl (by omega) hz
          exact ⟨_, _, _, _, _, (by decide), lpBy_cons (lpBy_cons (lpBy_cons lpBy_nil nd0 w3) nd0 w2) List.nodup_nil w1, e, hp⟩
        | some o2 =>
          rw [ho] at hb w3
          by_cases h255 : o2.length ≤ 255
          · have hb : decP l = some o2 := hb.trans (if_pos h255)
            rw [hb]
            obtain ⟨hh, p, e, hp⟩ := dcm4F_all l (cutD l) ((l.take (cutD l)).map UInt8.toNat) o2 .ret dcN hl (by omega) hz (by omega)
            exact ⟨_, _, _, _, _, (by decide), lpBy_cons (lpBy_cons (lpBy_cons lpBy_nil nd0 w3) nd0 w2) List.nodup_nil w1, e, hp⟩
          · have hb : decP l = none := hb.trans (if_neg h255)
            rw [hb]
            obtain ⟨hh, p, e, hp⟩ := dcm3F_all l (cutD l) ((l.take (cutD l)).map UInt8.toNat) o2 .ret dcN hl (by omega) hz (by omega)
            exact ⟨_, _, _, _, _, (by decide), lpBy_cons (lpBy_cons (lpBy_cons lpBy_nil nd0 w3) nd0 w2) List.nodup_nil w1, e, hp⟩
  · simp at hs

end Go.Proofs.Ytljgmgbjfjhjmaa
