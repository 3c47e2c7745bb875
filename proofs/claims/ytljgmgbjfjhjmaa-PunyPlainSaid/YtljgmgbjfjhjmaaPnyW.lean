/- Signs as letters: the program's Encode, whole. -/
import Derived.Test.YtljgmgbjfjhjmaaPnyV
namespace Go.Proofs.Ytljgmgbjfjhjmaa
open Go.RowKit Pny Srt
set_option linter.unusedVariables false
set_option linter.unusedSimpArgs false

def e2X (o : List Nat) (n : Nat) (C : List AV) (b c p : Nat) (f : Bool) : Heap := [some ⟨37, true, [.pt 0 0, .sl 3 0 n]⟩, some ⟨44, true, [.c (.int .i64 b), .c (.int .i64 c), .c (.int .i64 p), .c (.bool f)]⟩, some ⟨3, false, nats o⟩, some ⟨5, false, C⟩]

noncomputable def ecLp1 (C : List AV) (k : Nat) (e : Exit) (R : St) : Nat × Lp := (5, ⟨lbody Try.prog 9 5, ⟨[], [0, 4, 16, 17, 18], [0]⟩, ecS C k 0 wrF, e, R⟩)
noncomputable def ecLp2 (N : List Nat) (M : List Nat) (n : Nat) (h R : Heap) : Nat × Lp := (17, ⟨lbody Try.prog 9 17, ⟨[], [0, 4, 7, 8, 37, 38, 39], M⟩, e2S N (plc (unI (nats N)) (unI (nats N)).length).length n 0 h, .exit 2, e2R R⟩)

theorem ecm1_all (C : List AV) (k : Nat) (hk : ¬ k ≤ 255) : ∃ (h : Hints) (p : List Prop), outcome Try.prog 9 (aBody Try.prog clEc h (lpBy ([])) 60 9 ([.fs 1 k C]) ([])) = some (.tu [.c (str []), .c (.bool false)], p) ∧ allP p := by
  refine ⟨⟨true, (bs [(15, true)])⟩, [decide ((↑k : Int) > 255) = true], by kernel_rfl, ?_⟩
  all_goals try simp (disch := omega) only [std]
  all_goals repeat' apply And.intro
  all_goals first | exact True.intro | omega | with_reducible rfl | with_reducible assumption | rfl

theorem ecm2_all (C : List AV) (k : Nat) (hk : k ≤ 255) : ∃ (h : Hints) (p : List Prop), outcome Try.prog 9 (aBody Try.prog clEc h (lpBy ([ecLp1 C k .ret ecN])) 60 9 ([.fs 1 k C]) ([])) = some (.tu [.c (str []), .c (.bool false)], p) ∧ allP p := by
  refine ⟨⟨true, (bs [(15, false)])⟩, [decide ((↑k : Int) > 255) = false,
 ((lbody Try.prog (9 : FuncId) (5 : Nat) : Go.Code)) = (lbody Try.prog (9 : FuncId) (5 : Nat)),
 ((ecS C k (0 : Nat) wrF : Go.Proofs.Ytljgmgbjfjhjmaa.St)) = (ecS C k (0 : Nat) wrF)], by kernel_rfl, ?_⟩
  all_goals try simp (disch := omega) only [std]
  all_goals repeat' apply And.intro
  all_goals first | exact True.intro | omega | with_reducible rfl | with_reducible assumption | rfl

theorem ecmFF_all (N : List Nat) (L : List Int) (s t : List UInt8) (hk : N.length ≤ 255) (hu : unI (nats N) = L) (hr : nats N = rowN L) (hNL : N.length = L.length) (hsm : SmI L) : ∃ (h : Hints) (p : List Prop), outcome Try.prog 9 (aBody Try.prog clEc h (lpBy ([ecLp1 (nats N) N.length (.exit 0) (ecA (nats N) N.length (wrF)), ecLp2 N [0, 2, 3] 0 (e2F (orO (unI (nats N))) 72 128 0 false) wrF])) 60 9 ([.fs 1 N.length (nats N)]) ([])) = some (.tu [.c (str ([])), .c (.bool true)], p) ∧ allP p := by
  refine ⟨⟨true, (bs [(15, false)] ++ [])⟩, [decide ((↑N.length : Int) > 255) = false,
 ((lbody Try.prog (9 : FuncId) (5 : Nat) : Go.Code)) = (lbody Try.prog (9 : FuncId) (5 : Nat)),
 ((ecS (nats N) N.length (0 : Nat) wrF : Go.Proofs.Ytljgmgbjfjhjmaa.St)) = (ecS (nats N) N.length (0 : Nat) wrF),
 (((4 : Nat) : Nat) ≤ ((4 : Nat))),
 (((1 : Nat) : Nat)) = ((1 : Nat)),
 ((nats N : List AV)) = (rowN (unI (nats N))),
 ((N.length : Nat)) = ((unI (nats N)).length),
 ((N.length : Nat) ≤ ((255 : Nat))),
 SmI (unI (nats N)),
 ((lbody Try.prog (9 : FuncId) (17 : Nat) : Go.Code)) = (lbody Try.prog (9 : FuncId) (17 : Nat)),
 ((e2S N (plc (unI (nats N)) (unI (nats N)).length).length (0 : Nat) (0 : Nat) (e2F (orO (unI (nats N))) (72 : Nat) (128 : Nat) (0 : Nat) false) : Go.Proofs.Ytljgmgbjfjhjmaa.St)) = (e2S N (plc (unI (nats N)) (unI (nats N)).length).length (0 : Nat) (0 : Nat) (e2F (orO (unI (nats N))) (72 : Nat) (128 : Nat) (0 : Nat) false))], by kernel_rfl, ?_⟩
  all_goals try simp (disch := omega) only [std, hu]
  all_goals repeat' apply And.intro
  all_goals first | exact True.intro | omega | with_reducible rfl | with_reducible assumption |  exact hsm | exact hu | exact hr | exact hNL | exact hsm | rfl


theorem ecmFW_all (N : List Nat) (L : List Int) (s t : List UInt8) (hk : N.length ≤ 255) (hu : unI (nats N) = L) (hr : nats N = rowN L) (hNL : N.length = L.length) (hsm : SmI L) (ht : 0 < t.length) (htl : t.length ≤ 100000) (hb : unbyts (List.take t.length (byts t)) = t) (hbo : bytesOK (List.take t.length (byts t))) (htb : (byts t).length = t.length) : ∃ (h : Hints) (p : List Prop), outcome Try.prog 9 (aBody Try.prog clEc h (lpBy ([ecLp1 (nats N) N.length (.exit 0) (ecA (nats N) N.length (wrF)), ecLp2 N [0, 2, 3] 0 (e2F (orO (unI (nats N))) 72 128 0 false) (wrW t)])) 60 9 ([.fs 1 N.length (nats N)]) ([])) = some (.tu [.c (str (t)), .c (.bool true)], p) ∧ allP p := by
  refine ⟨⟨true, (bs [(15, false)] ++ [])⟩, [decide ((↑N.length : Int) > 255) = false,
 ((lbody Try.prog (9 : FuncId) (5 : Nat) : Go.Code)) = (lbody Try.prog (9 : FuncId) (5 : Nat)),
 ((ecS (nats N) N.length (0 : Nat) wrF : Go.Proofs.Ytljgmgbjfjhjmaa.St)) = (ecS (nats N) N.length (0 : Nat) wrF),
 (((4 : Nat) : Nat) ≤ ((4 : Nat))),
 (((1 : Nat) : Nat)) = ((1 : Nat)),
 ((nats N : List AV)) = (rowN (unI (nats N))),
 ((N.length : Nat)) = ((unI (nats N)).length),
 ((N.length : Nat) ≤ ((255 : Nat))),
 SmI (unI (nats N)),
 ((lbody Try.prog (9 : FuncId) (17 : Nat) : Go.Code)) = (lbody Try.prog (9 : FuncId) (17 : Nat)),
 ((e2S N (plc (unI (nats N)) (unI (nats N)).length).length (0 : Nat) (0 : Nat) (e2F (orO (unI (nats N))) (72 : Nat) (128 : Nat) (0 : Nat) false) : Go.Proofs.Ytljgmgbjfjhjmaa.St)) = (e2S N (plc (unI (nats N)) (unI (nats N)).length).length (0 : Nat) (0 : Nat) (e2F (orO (unI (nats N))) (72 : Nat) (128 : Nat) (0 : Nat) false)),
 (((0 : Nat) : Nat) < (t.length)),
 ((t.length : Nat) ≤ ((byts t).length)),
 bytesOK (List.take t.length (byts t)),
 ((t.length : Nat) ≤ ((4611686018427387904 : Nat)))], Eq.trans (b := some ((AV.tu [(AV.c ((str (unbyts (List.take t.length (byts t)))))),
 (AV.c ((Value.bool true)))]), _)) (by kernel_rfl) (congrArg (fun r => some (r, _)) (by first | rfl | (simp (disch := omega) only [std, hu, hb]; first | done | rfl))), ?_⟩
  all_goals try simp (disch := omega) only [std, hu, hb]
  all_goals repeat' apply And.intro
  all_goals first | exact True.intro | omega | with_reducible rfl | with_reducible assumption | exact hbo | exact hsm | exact hu | exact hr | exact hNL | exact hsm | exact hb | exact hbo | exact htb | rfl


theorem ecmWW_all (N : List Nat) (L : List Int) (s t : List UInt8) (hk : N.length ≤ 255) (hu : unI (nats N) = L) (hr : nats N = rowN L) (hNL : N.length = L.length) (hsm : SmI L) (hs : 0 < s.length) (hsl : s.length ≤ 255) (hsb : (byts s).length = s.length) (ht : 0 < t.length) (htl : t.length ≤ 100000) (hb : unbyts (List.take t.length (byts t)) = t) (hbo : bytesOK (List.take t.length (byts t))) (htb : (byts t).length = t.length) : ∃ (h : Hints) (p : List Prop), outcome Try.prog 9 (aBody Try.prog clEc h (lpBy ([ecLp1 (nats N) N.length (.exit 0) (ecA (nats N) N.length (wrW s)), ecLp2 N [0, 5, 6, 3] s.length (e2X (orO (unI (nats N))) (s.length + 1) ((byts s).take s.length ++ byts [UInt8.ofNat 45]) 72 128 0 false) (wrW t)])) 60 9 ([.fs 1 N.length (nats N)]) ([])) = some (.tu [.c (str (t)), .c (.bool true)], p) ∧ allP p := by
  refine ⟨⟨true, (bs [(15, false)] ++ bs [(33, true)])⟩, [decide ((↑N.length : Int) > 255) = false,
 ((lbody Try.prog (9 : FuncId) (5 : Nat) : Go.Code)) = (lbody Try.prog (9 : FuncId) (5 : Nat)),
 ((ecS (nats N) N.length (0 : Nat) wrF : Go.Proofs.Ytljgmgbjfjhjmaa.St)) = (ecS (nats N) N.length (0 : Nat) wrF),
 decide ((↑s.length : Int) > 0) = true,
 (0 : Int) ≤ 45,
 (45 : Int) < 256,
 ((s.length : Nat) ≤ ((byts s).length)),
 ((s.length + (1 : Nat) : Nat) ≤ ((140737488355328 : Nat))),
 (((4 : Nat) : Nat) ≤ ((4 : Nat))),
 (((1 : Nat) : Nat)) = ((1 : Nat)),
 ((nats N : List AV)) = (rowN (unI (nats N))),
 ((N.length : Nat)) = ((unI (nats N)).length),
 ((N.length : Nat) ≤ ((255 : Nat))),
 SmI (unI (nats N)),
 ((lbody Try.prog (9 : FuncId) (17 : Nat) : Go.Code)) = (lbody Try.prog (9 : FuncId) (17 : Nat)),
 ((e2S N (plc (unI (nats N)) (unI (nats N)).length).length s.length (0 : Nat) (e2X (orO (unI (nats N))) (s.length + (1 : Nat)) (List.take s.length (byts s) ++ byts [UInt8.ofNat (45 : Nat)]) (72 : Nat) (128 : Nat) (0 : Nat) false) : Go.Proofs.Ytljgmgbjfjhjmaa.St)) = (e2S N (plc (unI (nats N)) (unI (nats N)).length).length s.length (0 : Nat) (e2X (orO (unI (nats N))) (s.length + (1 : Nat)) (List.take s.length (byts s) ++ byts [UInt8.ofNat (45 : Nat)]) (72 : Nat) (128 : Nat) (0 : Nat) false)),
 (((0 : Nat) : Nat) < (t.length)),
 ((t.length : Nat) ≤ ((byts t).length)),
 bytesOK (List.take t.length (byts t)),
 ((t.length : Nat) ≤ ((4611686018427387904 : Nat)))], Eq.trans (b := some ((AV.tu [(AV.c ((str (unbyts (List.take t.length (byts t)))))),
 (AV.c ((Value.bool true)))]), _)) (by kernel_rfl) (congrArg (fun r => some (r, _)) (by first | rfl | (simp (disch := omega) only [std, hu, hb]; first | done | rfl))), ?_⟩
  all_goals try simp (disch := omega) only [std, hu, hb]
  all_goals repeat' apply And.intro
  all_goals first | exact True.intro | omega | with_reducible rfl | with_reducible assumption | exact hbo | exact hsm | exact hu | exact hr | exact hNL | exact hsm | exact hsb | exact hb | exact hbo | exact htb | rfl

theorem hyp_len (n : Nat) : (hyp n).length ≤ 1 := by
  unfold hyp
  split <;> simp

theorem str_facts (t : List UInt8) (h : t ≠ []) : 0 < t.length ∧ unbyts (List.take t.length (byts t)) = t ∧ bytesOK (List.take t.length (byts t)) := by
  have e : List.take t.length (byts t) = byts t := List.take_of_length_le (by rw [byts_length]; exact Nat.le_refl _)
  rw [e]
  refine ⟨?_, unbyts_byts t, bytesOK_byts t⟩
  cases t with
  | nil => exact absurd rfl h
  | cons c r => simp

theorem ec_at (L : List Int) : ∃ hs lp fuel p, LpOK Ext0 Try.prog lp ∧ outcome Try.prog 9 (aBody Try.prog clEc hs lp fuel 9 [.fs 1 L.length (rowN L)] []) = some (.tu [.c (str (encV L)), .c (.bool (mayI L))], p) ∧ allP p := by
  unfold encV mayI
  by_cases hl : L.length ≤ 255
  · rw [decide_eq_true hl, Bool.true_and]
    have w1 := ec_walk L hl
    cases hok : L.all okI with
    | false =>
      rw [hok] at w1
      obtain ⟨hh, p, e, hp⟩ := ecm2_all (rowN L) L.length hl
      exact ⟨_, _, _, _, lpBy_cons lpBy_nil nd0 w1, e, hp⟩
    | true =>
      rw [hok] at w1
      have hN := rowN_nats hok
      have hlen : (natL L).length = L.length := by simp [natL]
      have hsm : SmI L := fun z hz => by
        have h := List.all_eq_true.1 hok z hz
        exact ⟨okI_ge h, by have := okC_le (okI_toNat h); have := okI_ge h; omega⟩
      have hu : unI (nats (natL L)) = L := by rw [← hN, unI_rowN]
      have hs := natL_ok hok
      have hf : (fsB L).length = (bas (natL L)).length := by simp [fsB, byt]
      have hfl := fsB_len L L.length
      rw [List.take_length] at hfl
      obtain ⟨oS, oM, oN⟩ := ord_orO hok
      have hol : (orO L).length = (plc L L.length).length := so_len _ _
      have hpl := plc_len L L.length
      obtain ⟨hg, hE⟩ := pu_enc (natL L) (by omega) hs (orO L) oS oM oN
      have hEnc : encP (natL L) = fsB L ++ (hyp (bas (natL L)).length ++ wrT (puD (natL L) ⟨bas (natL L), 0, 128⟩ (orO L)) (bas (natL L)).length 72 true) := by rw [← hE]; rfl
      rw [hN, ← hlen] at w1 ⊢
      simp only [if_true] at w1 ⊢
      have nd024 : [0, 2, 3].Nodup := by decide
      have nd053 : [0, 5, 6, 3].Nodup := by decide
      by_cases hz : fsB L = []
      · have hb0 : (bas (natL L)).length = 0 := by rw [← hf, hz]; rfl
        rw [hz] at w1 hEnc
        have hh0 : hyp (bas (natL L)).length = [] := by rw [hb0]; rfl
        rw [hh0, List.nil_append] at hEnc
        have w2 := en_walk (natL L) (orO L) (by omega) hs (by omega) ⟨bas (natL L), 0, 128⟩ [] (encP (natL L)) hg (Nat.zero_le _) (by simp) (by simp) (by simp only; omega) hEnc.symm
        simp only [hb0] at w2
        rw [hol] at w2
        by_cases ht : encP (natL L) = []
        · rw [ht] at w2 ⊢
          obtain ⟨hh, p, e, hq⟩ := ecmFF_all (natL L) L [] [] (by omega) hu hN.symm hlen hsm
          refine ⟨_, _, _, _, lpBy_cons (lpBy_cons lpBy_nil nd024 ?_) nd0 w1, e, hq⟩
          show Tri Ext0 _ _ (e2S (natL L) (plc (unI (nats (natL L))) (unI (nats (natL L))).length).length 0 0 (e2F (orO (unI (nats (natL L)))) 72 128 0 false)) _ _
          rw [hu]
          exact w2
        · obtain ⟨t1, t2, t3⟩ := str_facts _ ht
          rw [wrG_ne ht] at w2
          have htl : (encP (natL L)).length ≤ 100000 := by
            obtain ⟨w, e1, _, _, e2, e3⟩ := enc_shape (l := natL L) (by unfold mayP; rw [decide_eq_true (by omega), Bool.true_and]; exact List.all_eq_true.2 hs)
            have e4 := hyp_len (bas (natL L)).length
            have e5 : (byt (bas (natL L))).length = (bas (natL L)).length := by simp [byt]
            rw [e1, List.length_append, List.length_append]
            omega
          obtain ⟨hh, p, e, hq⟩ := ecmFW_all (natL L) L [] (encP (natL L)) (by omega) hu hN.symm hlen hsm t1 htl t2 t3 (byts_length _)
          refine ⟨_, _, _, _, lpBy_cons (lpBy_cons lpBy_nil nd024 ?_) nd0 w1, e, hq⟩
          show Tri Ext0 _ _ (e2S (natL L) (plc (unI (nats (natL L))) (unI (nats (natL L))).length).length 0 0 (e2F (orO (unI (nats (natL L)))) 72 128 0 false)) _ _
          rw [hu]
          exact w2
      · obtain ⟨s1, _, _⟩ := str_facts _ hz
        rw [wrG_ne hz] at w1
        have hh1 : hyp (bas (natL L)).length = [45] := by unfold hyp; rw [if_pos (by omega)]
        rw [hh1, ← List.append_assoc] at hEnc
        have w2 := en_walk (natL L) (orO L) (by omega) hs (by omega) ⟨bas (natL L), 0, 128⟩ (fsB L ++ [45]) (encP (natL L)) hg (by simp only [List.length_append, List.length_singleton]; omega) (by simp) (by simp) (by simp only; omega) hEnc.symm
        have ht : encP (natL L) ≠ [] := by rw [hEnc]; simp
        obtain ⟨t1, t2, t3⟩ := str_facts _ ht
        rw [wrG_ne ht, e2G_ne (by simp)] at w2
        simp only [← hf] at w2
        rw [hol] at w2
        have htl : (encP (natL L)).length ≤ 100000 := by
          obtain ⟨w, e1, _, _, e2, e3⟩ := enc_shape (l := natL L) (by unfold mayP; rw [decide_eq_true (by omega), Bool.true_and]; exact List.all_eq_true.2 hs)
          have e4 := hyp_len (bas (natL L)).length
          have e5 : (byt (bas (natL L))).length = (bas (natL L)).length := by simp [byt]
          rw [e1, List.length_append, List.length_append]
          omega
        obtain ⟨hh, p, e, hq⟩ := ecmWW_all (natL L) L (fsB L) (encP (natL L)) (by omega) hu hN.symm hlen hsm s1 (by omega) (byts_length _) t1 htl t2 t3 (byts_length _)
        refine ⟨_, _, _, _, lpBy_cons (lpBy_cons lpBy_nil nd053 ?_) nd0 w1, e, hq⟩
        show Tri Ext0 _ _ (e2S (natL L) (plc (unI (nats (natL L))) (unI (nats (natL L))).length).length (fsB L).length 0 (e2X (orO (unI (nats (natL L)))) ((fsB L).length + 1) ((byts (fsB L)).take (fsB L).length ++ byts [UInt8.ofNat 45]) 72 128 0 false)) _ _
        rw [hu, show e2X (orO L) ((fsB L).length + 1) ((byts (fsB L)).take (fsB L).length ++ byts [UInt8.ofNat 45]) 72 128 0 false = e2W (orO L) (fsB L ++ [45]) 72 128 0 false by
          rw [show UInt8.ofNat 45 = 45 from rfl, byts_more]
          show _ = e2X (orO L) (fsB L ++ [45]).length _ 72 128 0 false
          rw [List.length_append]; rfl]
        exact w2
  · rw [decide_eq_false hl, Bool.false_and]
    obtain ⟨hh, p, e, hp⟩ := ecm1_all (rowN L) L.length hl
    exact ⟨_, _, _, _, lpBy_nil, e, hp⟩

theorem penc_ok : SpecOK Try.prog 9 enc7Spec := by
  refine spec_of mixed clEc_ok fun args r q hs hq => ?_
  unfold enc7Spec at hs
  split at hs
  · rename_i s n l
    simp only [Option.some.injEq, Prod.mk.injEq] at hs
    obtain ⟨rfl, rfl⟩ := hs
    obtain ⟨rfl, h2, h3, _⟩ := hq
    generalize unI l = L at *
    subst h2 h3
    exact ec_at L
  · simp at hs

end Go.Proofs.Ytljgmgbjfjhjmaa
