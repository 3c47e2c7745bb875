/- Code, loops, bodies, calls. -/
import Derived.Test.YtljgmgbjfjhjmaaLevI
import Derived.LoopN
namespace Go.Proofs.Ytljgmgbjfjhjmaa
open Go.RowKit
set_option linter.unusedSimpArgs false
set_option linter.unusedVariables false

variable {P : Program}

/-- What stays as it was behind code that may give its blocks other numbers. -/
structure Ext0 (w : World) (ι : Pl) (w' : World) (ι' : Pl) : Prop where
  os : w'.os = w.os
  tape : w'.tape = w.tape
  output : w'.output = w.output
  size : w.heap.size ≤ w'.heap.size
  hid : ι'.hid = ι.hid
  hkeep : ∀ g, g < w.heap.size → ι.hid g → w'.heap[g]? = w.heap[g]?
  blk : ∀ g, g < w.heap.size → ι.un g → w'.heap[g]? = w.heap[g]? ∧ ι'.un g

theorem Ext.weak {w w' : World} {ι ι' : Pl} (h : Ext w ι w' ι') : Ext0 w ι w' ι' := ⟨h.os, h.tape, h.output, h.size, h.hid, h.hkeep, h.blk⟩

theorem Ext0.trans {w w' w'' : World} {ι ι' ι'' : Pl} (h : Ext0 w ι w' ι') (k : Ext0 w' ι' w'' ι'') : Ext0 w ι w'' ι'' :=
  ⟨k.os.trans h.os, k.tape.trans h.tape, k.output.trans h.output, Nat.le_trans h.size k.size, k.hid.trans h.hid,
    fun g hg hh => (k.hkeep g (Nat.lt_of_lt_of_le hg h.size) (by rw [h.hid]; exact hh)).trans (h.hkeep g hg hh),
    fun g hg hn => by
      obtain ⟨e1, n1⟩ := h.blk g hg hn
      obtain ⟨e2, n2⟩ := k.blk g (Nat.lt_of_lt_of_le hg h.size) n1
      exact ⟨e2.trans e1, n2⟩⟩

theorem Ext0.refl (w : World) (ι : Pl) : Ext0 w ι w ι := (Ext.refl w ι).weak

abbrev Rl := World → Pl → World → Pl → Prop

structure RlOK (X : Rl) : Prop where
  of : ∀ {w ι w' ι'}, Ext w ι w' ι' → X w ι w' ι'
  trans : ∀ {w ι w' ι' w'' ι''}, X w ι w' ι' → X w' ι' w'' ι'' → X w ι w'' ι''

theorem rlExt : RlOK Ext := ⟨id, Ext.trans⟩
theorem rlExt0 : RlOK Ext0 := ⟨Ext.weak, Ext0.trans⟩

variable [Gv]

/-- A piece of code, begun in S, comes to e and S'. -/
def Tri (X : Rl) (P : Program) (code : Code) (S : St) (e : Exit) (S' : St) : Prop :=
  ∀ w ι a Q, StRel P w ι S a → (∀ a' w' ι', StRel P w' ι' S' a' → X w ι w' ι' → Q e a' w') → code.wp P Q a w

theorem want_st {w : World} {ι : Pl} {S : St} {a : Act} {ops : Array Oper} {o : Oper} {b : Bool} (h : StRel P w ι S a) (hw : wantA ops S.fr o = some b) : Region.wanted o (yielded ops a.tmps) = b :=
  want_ok (fun _ d _ _ _ => h.fr.rel d) hw

theorem aOps_mono {cl : CallT} {hs : Hints} {ops : Array Oper} : ∀ (l : List Oper) (S S' : St) (p0 p : List Prop), aOps P cl hs ops l S p0 = some (S', p) → allP p → allP p0
  | [], S, S', p0, p, h, hp' => by
    simp only [aOps, Option.some.injEq, Prod.mk.injEq] at h
    rw [h.2]; exact hp'
  | o :: r, S, S', p0, p, h, hp' => by
    simp only [aOps] at h
    split at h
    · split at h
      · exact (allP_append (aOps_mono r _ _ _ _ h hp')).1
      · simp at h
    · exact aOps_mono r _ _ _ _ h hp'
    · simp at h

theorem aOps_ok {X : Rl} (hX : RlOK X) {cl : CallT} (hcl : CallOK P cl) {hs : Hints} {ops : Array Oper} {Q : Exit → Act → World → Prop} : ∀ (l : List Oper) (S S' : St) (p0 p : List Prop) (w : World) (ι : Pl) (a : Act),
    aOps P cl hs ops l S p0 = some (S', p) → allP p → StRel P w ι S a → (∀ a' w' ι', StRel P w' ι' S' a' → X w ι w' ι' → Q .normal a' w') → wpList P ops Q l a w
  | [], S, S', p0, p, w, ι, a, h, hp', hS, hQ => by
    simp only [aOps, Option.some.injEq, Prod.mk.injEq] at h
    obtain ⟨rfl, rfl⟩ := h
    exact hQ a w ι hS (hX.of (Ext.refl _ _))
  | o :: r, S, S', p0, p, w, ι, a, h, hp', hS, hQ => by
    simp only [aOps] at h
    unfold wpList
    split at h
    · rename_i hw
      split at h
      · rename_i S1 q hq
        rw [if_pos (want_st hS hw)]
        exact .inl (doOp_ok hcl hS hq (allP_append (aOps_mono r _ _ _ _ h hp')).2 fun a' w' ι' hS' hext => aOps_ok hX hcl r S1 S' _ p w' ι' a' h hp' hS' fun a2 w2 ι2 h2 e2 => hQ a2 w2 ι2 h2 (hX.trans (hX.of hext) e2))
      · simp at h
    · rename_i hw
      rw [if_neg (by rw [want_st hS hw]; simp)]
      exact aOps_ok hX hcl r _ S' _ p w ι _ h hp' (hS.put (show VR P w ι true uAV undef from .c) o.dst) hQ
    · simp at h

omit [Gv] in
theorem list_none {ops : Array Oper} : (∀ k, (Array.replicate ops.size false).getD k false = false) := by
  intro k
  by_cases hlt : k < ops.size <;> simp [Array.getD, hlt]

theorem draws_ok {X : Rl} (hX : RlOK X) (hm : P.follows .mixedOrders = true) {cl : CallT} (hcl : CallOK P cl) {hs : Hints} {id : Nat} {ops : Array Oper} {S S' : St} {fr' : List AV} {p1 p : List Prop} (hok : drawOk ops = true)
    (h : aOpsQ P cl hs ops S.hp (ops.toList.take (cutN ops)) S.fr [] = some (fr', p1)) (h2 : aOps P cl hs ops (ops.toList.drop (cutN ops)) ⟨fr', S.hp⟩ p1 = some (S', p)) (hp' : allP p) :
    Tri X P (.region id ops true) S .normal S' := by
  intro w ι a Q hS hQ
  have hle : headN ops ≤ ops.size := by unfold headN; omega
  obtain ⟨F, V, f1, f2, f3⟩ := aOpsQ_lex _ _ _ _ _ h (aOps_mono _ _ _ _ _ h2 hp')
  refine wp_region_any hm ?_
  have e0 := Ext.drew w ι
  have hslot : ∀ (V : Nat → AV) t, slotAt S.fr ops V (fun i => (Array.replicate ops.size false).getD i false) ops.size t = S.fr.getD t .any := by
    intro V t
    have gen : ∀ k, slotAt S.fr ops V (fun i => (Array.replicate ops.size false).getD i false) k t = S.fr.getD t .any := by
      intro k
      induction k with
      | zero => rfl
      | succ k ih =>
        simp only [slotAt]
        split
        · rw [if_neg (by rintro ⟨hL, _⟩; rw [list_none] at hL; cases hL)]
          exact ih
        · exact ih
    exact gen _
  have hcnt : ((List.range (headN ops)).filter fun i => !(Array.replicate ops.size false).getD i false).length + (ops.size - headN ops) ≤ ops.size := by
    have := List.length_filter_le (fun i => !(Array.replicate ops.size false).getD i false) (List.range (headN ops))
    simp only [List.length_range] at this
    omega
  by_cases hmid : midOk ops (headN ops - 1) = true ∧ headN ops ≠ 0
  · obtain ⟨hmid, hne⟩ := hmid
    obtain ⟨s, hs1⟩ : ∃ s, headN ops = s + 1 := ⟨headN ops - 1, by omega⟩
    have hcut : cutN ops = s := by unfold cutN; rw [if_pos hmid]; omega
    rw [hcut] at h h2 f2 f3
    have hss : s < ops.size := by omega
    have hlen : (ops.toList.take s).length = s := by simp; omega
    rw [hlen] at f2
    have ho : ops[s]? = some ops[s] := by simp [hss]
    rw [hs1, Nat.add_sub_cancel] at hmid
    unfold midOk at hmid
    rw [ho] at hmid
    simp only [Bool.and_eq_true, List.all_eq_true, List.mem_range, Bool.or_eq_true, List.contains_iff_mem, Option.isNone_iff_eq_none] at hmid
    obtain ⟨⟨⟨hdst, hgd⟩, hst⟩, hfl⟩ := hmid
    have preds : ∀ j x, x ∈ (predsGo ops.toList []).getD j [] → PredOf ops j x := predsGo_spec ops.toList [] (by simp) (by intro j x hx; simp at hx)
    -- the store itself
    rw [List.drop_eq_getElem_cons (by simpa using hss)] at h2
    have e1 : ops.toList[s] = ops[s] := by simp
    rw [e1] at h2
    simp only [aOps] at h2
    have hw : wantA ops fr' ops[s] = some true := by unfold wantA; rw [hgd]
    rw [hw] at h2
    simp only at h2
    split at h2
    · rename_i S1 q1 hd1
      have hq1 := (allP_append (aOps_mono _ _ _ _ _ h2 hp')).2
      have hstore : ∃ t x y, ops[s].op = .store t x y := by
        revert hst
        cases ops[s].op <;> simp
      obtain ⟨ty, xa, xb, hop⟩ := hstore
      unfold doOp at hd1
      rw [hop] at hd1
      simp only at hd1
      split at hd1
      · rename_i r hr
        split at hd1
        · rename_i v cmd q hu
          simp only [Option.some.injEq, Prod.mk.injEq] at hd1
          obtain ⟨rfl, rfl⟩ := hd1
          obtain ⟨c1, c2, c3⟩ := useHint_ok hu hq1
          obtain ⟨cks, av, cmd'⟩ := r
          simp only at c1 c2 c3
          subst c2; subst c3
          have hS1 : (St.put { fr := fr', hp := cmd.run S.hp } ops[s].dst v) = ⟨fr', cmd.run S.hp⟩ := by rw [hdst]; rfl
          have hS1 : (St.put { ({ fr := fr', hp := S.hp } : St) with hp := cmd.run S.hp } ops[s].dst v) = ⟨fr', cmd.run S.hp⟩ := hS1
          rw [hS1] at h2
          have hF' : LexF ops (headN ops) S.fr fr' (fun i => F (min i s)) (fun i => if i < s then V i else .any) := by
            refine ⟨hle, ?_, ?_, fun i o hi ho' => ?_⟩
            · show F (min 0 s) = S.fr
              rw [Nat.zero_min]; exact f1
            · show F (min (headN ops) s) = fr'
              rw [hs1, Nat.min_eq_right (by omega)]; exact f2
            · by_cases his : i < s
              · have := (f3 i o (by rw [List.getElem?_take_of_lt his]; simpa using ho')).2
                show F (min (i + 1) s) = (St.put ⟨F (min i s), []⟩ o.dst (if i < s then V i else .any)).fr
                rw [if_pos his, Nat.min_eq_left (by omega), Nat.min_eq_left (by omega), this]
                exact putFr _ _ _ _ _
              · have : i = s := by omega
                subst this
                rw [ho] at ho'; cases ho'
                show F (min (i + 1) i) = (St.put ⟨F (min i i), []⟩ ops[i].dst _).fr
                rw [hdst, Nat.min_eq_right (by omega), Nat.min_self]
                rfl
          have hAt : ∀ i o, i < s → ops[i]? = some o → LexAt P cl hs ops S.hp (fun i => F (min i s)) (fun i => if i < s then V i else .any) i o := by
            intro i o his ho'
            have := (f3 i o (by rw [List.getElem?_take_of_lt his]; simpa using ho')).1
            show (wantA ops (F (min i s)) o = some true ∧ ∃ q, doOpQ P cl hs S.hp (F (min i s)) o = some ((if i < s then V i else .any), q) ∧ allP q) ∨ (wantA ops (F (min i s)) o = some false ∧ (if i < s then V i else .any) = uAV)
            rw [if_pos his, Nat.min_eq_left (by omega)]
            exact this
          refine orders_ok (hs := hs) hcl hF' (fun i => i < s) (some s) (fun i o _ hi ho' => hAt i o hi ho') hok (w0 := w.drew) (ι := ι) (fun hc => by cases hc) ?_ ops.size _ a w.drew (by simp) ?_ (fun i _ => list_none i) (fun i hi _ => ?_) (fun s _ => list_none s) hcnt hS.fr.len.symm ?_ ?_ (Ext.refl _ _) hS.df
          · intro s' hs'
            cases hs'
            refine ⟨by omega, fun fuel listed a w1 hsz hdown hno hnl hpre hops hcnt2 hlen2 hrel hh hext hdf => ?_⟩
            have hops := hops _ ho
            have hFs : F (min s s) = fr' := by rw [Nat.min_self]; exact f2
            have hops : ∀ x ∈ ops[s].op.operands, VR P w1 ι true (aEv fr' x) (a.eval x) := fun x hx => by have := hops x hx; rw [hFs] at this; exact this
            unfold wpOp
            rw [ho]
            simp only
            rw [if_pos (by rw [show Region.wanted ops[s] (yielded ops a.tmps) = true by unfold Region.wanted; rw [hgd]])]
            refine .inl ?_
            obtain ⟨n, w', ι', v', hrun, hn, hext', hh', hv, _⟩ := opS_ok hops hh hr c1
            unfold Oper.wp
            rw [hrun]
            have hset : ∀ k, (listed.setIfInBounds s true).getD k false = if k = s then true else listed.getD k false := by
              intro k
              by_cases hk : k = s
              · subst hk
                simp [Array.getD, show k < listed.size by omega]
              · by_cases hkl : k < listed.size
                · simp [Array.getD, hkl, Ne.symm hk, hk]
                · simp [Array.getD, hkl, hk]
            have fin : wpAny P .any ops Q fuel (listed.setIfInBounds s true) (a.put ops[s].dst v') w' := by
              rw [hdst]
              show wpAny P .any ops Q fuel (listed.setIfInBounds s true) a w'
              refine orders_ok (hp := cmd.run S.hp) (hs := hs) hcl hF' (fun i => i < s ∧ ∀ o, ops[i]? = some o → floatOk o = true) none (fun i o _ hi ho' => ?_) hok (w0 := w') (ι := ι') (fun _ a2 w2 hS2 e2 => ?_) (fun s hc => by cases hc) fuel _ a w' (by simp [hsz]) ?_ ?_ ?_ (fun s hc => by cases hc) hcnt2 hlen2 ?_ hh' (Ext.refl _ _) hdf
              · rcases hAt i o hi.1 ho' with ⟨k1, q, k2, k3⟩ | k
                · exact .inl ⟨k1, q, by rw [float_same (hi.2 o ho') _ S.hp]; exact k2, k3⟩
                · exact .inr k
              · rw [hs1]
                exact aOps_ok hX hcl _ _ S' _ p w2 ι' a2 h2 hp' hS2 fun a3 w3 ι3 h3 e3 => hQ a3 w3 ι3 h3 (hX.trans (hX.of (((e0.trans hext).trans hext').trans e2)) e3)
              · intro j o e hj hoj he hb
                have hj : (listed.setIfInBounds s true).getD j false = true := hj
                show (listed.setIfInBounds s true).getD e.on false = true
                rw [hset] at hj ⊢
                split
                · rfl
                · split at hj
                  · rename_i hji
                    subst hji
                    exact hpre _ (.edge hoj he hb)
                  · exact hdown j o e hj hoj he hb
              · intro k hk
                rw [hset, if_neg (by omega)]
                exact hno k hk
              · intro k hk hkn
                rw [hset] at hkn
                split at hkn
                · cases hkn
                · refine .inl ⟨by omega, fun o hok' => ?_⟩
                  have hks : k < s := by omega
                  rcases hfl k hks with h | h
                  · have := hpre k (preds s k h)
                    rw [hkn] at this; cases this
                  · rw [hok'] at h
                    exact h
              · intro t
                rw [slotAt_congr (L' := fun i => listed.getD i false) (fun j o hj hoj hd => by
                  show (listed.setIfInBounds s true).getD j false = listed.getD j false
                  rw [hset, if_neg (by rintro rfl; rw [ho] at hoj; cases hoj; rw [hdst] at hd; cases hd)])]
                exact (hrel t).mono hext'
            rcases hn with rfl | ⟨rfl, rfl⟩
            · rw [Oper.upon_value]; exact fin
            · rw [Oper.upon_skip]; exact fin
          · intro j o e hj
            have hj : (Array.replicate ops.size false).getD j false = true := hj
            rw [list_none] at hj; cases hj
          · by_cases his : i < s
            · exact .inl his
            · exact .inr (by rw [show i = s by omega])
          · intro t
            rw [hslot]
            exact (hS.fr.rel t).mono e0
          · exact (HpRel.ext (w' := w.drew) hS.hp rfl rfl rfl (Nat.le_refl _) (fun _ _ => rfl)).2
        · simp at hd1
      · simp at hd1
    · simp at h2
  · have hcut : cutN ops = headN ops := by
      unfold cutN
      split
      · rename_i hc
        have : headN ops = 0 := by
          apply Classical.byContradiction
          intro hne
          exact hmid ⟨hc, hne⟩
        omega
      · rfl
    rw [hcut] at h h2 f2 f3
    have hlen : (ops.toList.take (headN ops)).length = headN ops := by simp; omega
    rw [hlen] at f2
    have f3' : ∀ i o, i < headN ops → ops[i]? = some o → _ := fun i o hi ho => f3 i o (by rw [List.getElem?_take_of_lt hi]; simpa using ho)
    have hlex : LexF ops (headN ops) S.fr fr' F V := ⟨hle, f1, f2, fun i o hi ho => (f3' i o hi ho).2.trans (putFr _ _ _ _ _)⟩
    refine orders_ok (hs := hs) hcl hlex (fun _ => True) none (fun i o hi _ ho => (f3' i o hi ho).1) hok (w0 := w.drew) (ι := ι) (fun _ a' w' hS' hext => aOps_ok hX hcl _ _ S' p1 p w' ι a' h2 hp' hS' fun a2 w2 ι2 hS2 e2 => hQ a2 w2 ι2 hS2 (hX.trans (hX.of (e0.trans hext)) e2)) (fun s hc => by cases hc) ops.size _ a w.drew (by simp) ?_ (fun i _ => list_none i) (fun i _ _ => .inl trivial) (fun s hc => by cases hc) hcnt hS.fr.len.symm ?_ ?_ (Ext.refl _ _) hS.df
    · intro j o e hj
      have hj : (Array.replicate ops.size false).getD j false = true := hj
      rw [list_none] at hj; cases hj
    · intro t
      rw [hslot]
      exact (hS.fr.rel t).mono e0
    · exact (HpRel.ext (w' := w.drew) hS.hp rfl rfl rfl (Nat.le_refl _) (fun _ _ => rfl)).2

/-- What is known of loops holds. -/
def LpOK (X : Rl) (P : Program) (lp : Nat → Option Lp) : Prop := ∀ k L, lp k = some L → ∀ w ι a Q S, StRel P w ι S a → L.fi.app S = L.E → (∀ a' w' ι', StRel P w' ι' L.R a' → X w ι w' ι' → Q L.e a' w') → (Code.loop L.body).wp P Q a w

theorem aCode_ok {X : Rl} (hX : RlOK X) (hm : P.follows .mixedOrders = true) {cl : CallT} (hcl : CallOK P cl) {hs : Hints} {lp : Nat → Option Lp} (hlp : LpOK X P lp) : ∀ (n : Nat) (code : Code) (S S' : St) (e : Exit) (p : List Prop),
    aCode P cl hs lp n code S = some (e, S', p) → allP p → Tri X P code S e S' ∧
      ∀ b, code = .loop b → (Code.rid b).bind lp = none → ∃ N, ∀ w ι a Q, StRel P w ι S a → (∀ a' w' ι', StRel P w' ι' S' a' → X w ι w' ι' → Q e a' w') → Code.rounds P b Q N a w := by
  intro n
  induction n with
  | zero => intro code S S' e p h; simp [aCode] at h
  | succ n ih =>
    intro code S S' e p h hp'
    have plain : Tri X P code S e S' → (∀ b, code ≠ .loop b) → Tri X P code S e S' ∧ ∀ b, code = .loop b → (Code.rid b).bind lp = none → ∃ N, ∀ w ι a Q, StRel P w ι S a → (∀ a' w' ι', StRel P w' ι' S' a' → X w ι w' ι' → Q e a' w') → Code.rounds P b Q N a w :=
      fun ht hn => ⟨ht, fun b hb => absurd hb (hn b)⟩
    unfold aCode at h
    split at h
    · -- skip
      simp only [Option.some.injEq, Prod.mk.injEq] at h
      obtain ⟨rfl, rfl, rfl⟩ := h
      exact plain (fun w ι a Q hS hQ => wp_skip (hQ a w ι hS (hX.of (Ext.refl _ _)))) (by simp)
    · -- a region
      split at h
      · rename_i S1 q hq
        simp only [Option.some.injEq, Prod.mk.injEq] at h
        obtain ⟨rfl, rfl, rfl⟩ := h
        exact plain (fun w ι a Q hS hQ => wp_region_list (aOps_ok hX hcl _ S S1 [] q w ι a hq hp' hS hQ)) (by simp)
      · simp at h
    · -- a region that draws
      split at h
      · rename_i hok
        split at h
        · rename_i fr q hq
          split at h
          · rename_i S1 q1 hq1
            simp only [Option.some.injEq, Prod.mk.injEq] at h
            obtain ⟨rfl, rfl, rfl⟩ := h
            exact plain (draws_ok hX hm hcl hok hq hq1 hp') (by simp)
          · simp at h
        · simp at h
      · simp at h
    · -- seq
      rename_i x y
      refine plain ?_ (by simp)
      intro w ι a Q hS hQ
      refine wp_seq ?_
      split at h
      · rename_i S1 q1 h1
        split at h
        · rename_i e2 S2 q2 h2
          simp only [Option.some.injEq, Prod.mk.injEq] at h
          obtain ⟨rfl, rfl, rfl⟩ := h
          refine (ih x S S1 .normal q1 h1 (allP_append hp').1).1 w ι a _ hS fun a1 w1 ι1 hS1 e1 => ?_
          exact (ih y S1 S2 e2 q2 h2 (allP_append hp').2).1 w1 ι1 a1 Q hS1 fun a2 w2 ι2 hS2 e2' => hQ a2 w2 ι2 hS2 (hX.trans e1 e2')
        · simp at h
      · rename_i r hne
        refine (ih x S S' e p h hp').1 w ι a _ hS fun a1 w1 ι1 hS1 e1 => ?_
        have := hQ a1 w1 ι1 hS1 e1
        cases e with
        | normal => exact absurd h (hne S' p)
        | _ => exact this
    · -- cond
      rename_i c x y
      refine plain ?_ (by simp)
      intro w ι a Q hS hQ
      have hc := hS.ev c
      split at h
      · rename_i hb
        rw [hb] at hc
        exact wp_cond_true hc.cInv ((ih x S S' e p h hp').1 w ι a Q hS hQ)
      · rename_i hb
        rw [hb] at hc
        exact wp_cond_false hc.cInv ((ih y S S' e p h hp').1 w ι a Q hS hQ)
      · simp at h
    · -- block
      rename_i id b
      refine plain ?_ (by simp)
      intro w ι a Q hS hQ
      refine wp_block ?_
      split at h
      · rename_i id' S1 q1 h1
        split at h
        · rename_i hid
          simp only [Option.some.injEq, Prod.mk.injEq] at h
          obtain ⟨rfl, rfl, rfl⟩ := h
          refine (ih b S S1 (.exit id') q1 h1 hp').1 w ι a _ hS fun a1 w1 ι1 hS1 e1 => ?_
          simp only [Exit.inBlock, hid, if_true]
          exact hQ a1 w1 ι1 hS1 e1
        · rename_i hid
          simp only [Option.some.injEq, Prod.mk.injEq] at h
          obtain ⟨rfl, rfl, rfl⟩ := h
          refine (ih b S S1 (.exit id') q1 h1 hp').1 w ι a _ hS fun a1 w1 ι1 hS1 e1 => ?_
          simp only [Exit.inBlock, hid, if_false]
          exact hQ a1 w1 ι1 hS1 e1
      · rename_i r hne
        refine (ih b S S' e p h hp').1 w ι a _ hS fun a1 w1 ι1 hS1 e1 => ?_
        have := hQ a1 w1 ι1 hS1 e1
        cases e with
        | exit id' => exact absurd h (hne id' S' p)
        | _ => exact this
    · -- loop
      rename_i b
      split at h
      · rename_i L hL
        simp only [Option.some.injEq, Prod.mk.injEq] at h
        obtain ⟨rfl, rfl, rfl⟩ := h
        obtain ⟨hb, hE, _⟩ := hp'
        obtain ⟨k, hk, hlk⟩ := Option.bind_eq_some_iff.1 hL
        refine ⟨fun w ι a Q hS hQ => ?_, fun b' hb' hn => ?_⟩
        · rw [hb]
          exact hlp k L hlk w ι a Q S hS hE hQ
        · cases hb'
          rw [hL] at hn; cases hn
      · rename_i hnone
        have key : ∃ N, ∀ w ι a Q, StRel P w ι S a → (∀ a' w' ι', StRel P w' ι' S' a' → X w ι w' ι' → Q e a' w') → Code.rounds P b Q N a w := by
          split at h
          · rename_i S1 q1 h1
            split at h
            · rename_i e2 S2 q2 h2
              simp only [Option.some.injEq, Prod.mk.injEq] at h
              obtain ⟨rfl, rfl, rfl⟩ := h
              have step := (ih b S S1 .normal q1 h1 (allP_append hp').1).1
              obtain ⟨N, hN⟩ := (ih (.loop b) S1 S2 e2 q2 h2 (allP_append hp').2).2 b rfl hnone
              refine ⟨N + 1, fun w ι a Q hS hQ => ?_⟩
              rw [rounds_succ]
              exact step w ι a _ hS fun a1 w1 ι1 hS1 e1 => hN w1 ι1 a1 Q hS1 fun a2 w2 ι2 hS2 e2' => hQ a2 w2 ι2 hS2 (hX.trans e1 e2')
            · simp at h
          · rename_i r hne
            refine ⟨1, fun w ι a Q hS hQ => ?_⟩
            rw [rounds_succ]
            refine (ih b S S' e p h hp').1 w ι a _ hS fun a1 w1 ι1 hS1 e1 => ?_
            have := hQ a1 w1 ι1 hS1 e1
            cases e with
            | normal => exact absurd h (hne S' p)
            | _ => exact this
        refine ⟨fun w ι a Q hS hQ => ?_, fun b' hb' _ => by cases hb'; exact key⟩
        obtain ⟨N, hN⟩ := key
        exact wp_loop_rounds N (hN w ι a Q hS hQ)
    · -- exit
      simp only [Option.some.injEq, Prod.mk.injEq] at h
      obtain ⟨rfl, rfl, rfl⟩ := h
      exact plain (fun w ι a Q hS hQ => wp_exit (hQ a w ι hS (hX.of (Ext.refl _ _)))) (by simp)
    · -- ret
      simp only [Option.some.injEq, Prod.mk.injEq] at h
      obtain ⟨rfl, rfl, rfl⟩ := h
      exact plain (fun w ι a Q hS hQ => wp_ret (hQ a w ι hS (hX.of (Ext.refl _ _)))) (by simp)
    · simp at h

/-- A function's results, read. -/
def resSem (tmps : Array Value) : ResultVar → Sem Value
  | .tmp t => pure (tmps.getD t undef)
  | .cell a t => do loadVar t (← asAddr (tmps.getD a undef))

theorem run_resOne {w : World} {ι : Pl} {fr : List AV} {tmps : Array Value} {hp : Heap} (h : FrRel P w ι fr tmps) (hh : HpRel P w ι hp) {x : ResultVar} {a : AV} (hx : resOne P fr hp x = some a) :
    ∃ v, (resSem tmps x).run P w = .ok v w ∧ VR P w ι true a v := by
  cases x with
  | tmp t =>
    simp only [resOne, Option.some.injEq] at hx
    subst hx
    exact ⟨_, rfl, h.rel t⟩
  | cell a' t =>
    simp only [resOne] at hx
    split at hx
    · rename_i b off ha
      split at hx
      · rename_i B hB
        split at hx
        · rename_i k v hld
          split at hx
          · rename_i hk
            simp only [Option.some.injEq] at hx
            subst hx
            have hr := h.rel a'
            rw [ha] at hr
            generalize hρ : tmps.getD a' undef = vx at hr
            cases hr with
            | ptDead hd => exact absurd hd (hh.notDead hB)
            | pt hg hh0 =>
              rename_i g _ _ _
              obtain ⟨cur, fz, hcur, hfz, hlen, hone, hrel, hcell⟩ := (hh.live hB).cells hg hh0
              obtain ⟨u, hu1, hu2⟩ := run_load_row (P := P) (w := w) (ι := ι) (g := g) (off := off) (us := fun j => cur.getD (off + j) undef)
                ⟨fun j hj => by simp only [List.length_drop] at hj; exact hcell _ (by omega), fun j hj => by simp only [List.length_drop] at hj; exact hone _ (by omega),
                  fun j hj => by simp only [List.length_drop] at hj; rw [drop_getD]; exact (hrel _ (by omega)).open_⟩ hld (Ck.conj_of_all _ hk)
              refine ⟨u, ?_, hu2⟩
              have e : resSem tmps (.cell a' t) = Instr.loadAt t (.pointer (some ⟨g, off, none⟩)) := by
                unfold resSem Instr.loadAt
                simp only [hρ, asAddr, Instr.sureAddr]
              rw [e]; exact hu1
          · simp at hx
        · simp at hx
      · simp at hx
    · simp at hx

theorem run_resAll {w : World} {ι : Pl} {fr : List AV} {tmps : Array Value} {hp : Heap} (h : FrRel P w ι fr tmps) (hh : HpRel P w ι hp) : ∀ {l : List ResultVar} {as : List AV}, resAll P fr hp l = some as →
    ∃ vs : List Value, (l.mapM (resSem tmps)).run P w = .ok vs w ∧ vs.length = as.length ∧ ∀ j, j < as.length → VR P w ι true (as.getD j .any) (vs.getD j undef)
  | [], as, ha => by
    simp only [resAll, Option.some.injEq] at ha
    subst ha
    exact ⟨[], by simp, rfl, fun j hj => by simp at hj⟩
  | x :: r, as, ha => by
    simp only [resAll] at ha
    split at ha
    · rename_i a l hx hr
      simp only [Option.some.injEq] at ha
      subst ha
      obtain ⟨v, h1, h2⟩ := run_resOne h hh hx
      obtain ⟨vs, h3, h4, h5⟩ := run_resAll h hh hr
      refine ⟨v :: vs, ?_, by simp [h4], fun j hj => ?_⟩
      · simp only [List.mapM_cons]
        simp only [Sem.run_bind, Sem.run_pure, Result.andThen_ok, h1, h3]
      · cases j with
        | zero => exact h2
        | succ j => simpa using h5 j (by simpa using hj)
    · simp at ha

theorem run_results {fn : Func} {w : World} {ι : Pl} {fr : List AV} {tmps : Array Value} {hp : Heap} (h : FrRel P w ι fr tmps) (hh : HpRel P w ι hp) {r : AV} (hr : resAV P fr hp fn.results.toList = some r) :
    ∃ v, (results fn tmps).run P w = .ok v w ∧ VR P w ι true r v := by
  unfold resAV at hr
  cases hl : resAll P fr hp fn.results.toList with
  | none => rw [hl] at hr; simp at hr
  | some as =>
    rw [hl] at hr
    simp only [Option.map_some, Option.some.injEq] at hr
    subst hr
    obtain ⟨vs, h1, h2, h3⟩ := run_resAll h hh hl
    have hf : fn.results = fn.results.toList.toArray := by simp
    have hm : (results fn tmps).run P w = .ok (if h : vs.toArray.size = 1 then vs.toArray[0] else .tuple vs.toArray) w := by
      have hg : results fn tmps = (do
          let vs ← fn.results.mapM (resSem tmps)
          pure (if h : vs.size = 1 then vs[0] else .tuple vs)) := by
        unfold results
        congr 1
      rw [hg, hf, List.mapM_toArray]
      simp only [Sem.run_bind, Sem.run_map, h1]
      rfl
    rw [hm]
    refine ⟨_, rfl, ?_⟩
    match as, vs, h2, h3 with
    | [], [], _, _ => exact .tu (by simp) (by intro j hj; simp at hj)
    | [a], [v], _, h3 => exact h3 0 (by simp)
    | a :: b :: c, u :: v :: x, h2, h3 =>
      have hne : ¬ (u :: v :: x).toArray.size = 1 := by simp
      rw [dif_neg hne]
      refine .tu (by simpa using h2.symm) fun j hj => ?_
      rw [toArray_getD]
      exact h3 j hj

/-- A function's body, run. -/
theorem aBody_ok {X : Rl} (hX : RlOK X) (hm : P.follows .mixedOrders = true) {cl : CallT} (hcl : CallOK P cl) {hs : Hints} {lp : Nat → Option Lp} (hlp : LpOK X P lp) {fuel : Nat} {f : FuncId} {args : List AV} {hp : Heap} {r : AV} {hp' : Heap} {p : List Prop}
    (h : aBody P cl hs lp fuel f args hp = some (r, hp', p)) (hp0 : allP p) {w : World} {ι : Pl} {vs : Array Value} (hh : HpRel P w ι hp) (hl : args.length = vs.size) (hv : ∀ j, j < args.length → VR P w ι true (args.getD j .any) (vs.getD j undef)) :
    HasBody P f ∧ Calls P f vs w fun e w' => ∃ v ι', e = .returned v ∧ X w ι w' ι' ∧ HpRel P w' ι' hp' ∧ VR P w' ι' true r v := by
  unfold aBody at h
  split at h
  · rename_i fn hf
    split at h
    · rename_i c hb
      split at h
      · simp at h
      · rename_i hname
        refine ⟨⟨fn, c, hf, hb, hname⟩, ?_⟩
        have hS : StRel P w ι ⟨args ++ List.replicate (fn.ntmps - args.length) .any, hp⟩ { tmps := vs ++ Array.replicate (fn.ntmps - vs.size) undef, defers := [] } := by
          refine ⟨⟨by simp [hl], fun t => ?_⟩, hh, rfl⟩
          rw [getD_append]
          have e2 : (vs ++ Array.replicate (fn.ntmps - vs.size) undef).getD t undef = if t < vs.size then vs.getD t undef else undef := by
            rw [← toList_getD, ← toList_getD]
            simp only [Array.toList_append, List.getD, List.getElem?_append, Array.length_toList, Array.toList_replicate, List.getElem?_replicate]
            split
            · rfl
            · split <;> rfl
          rw [e2]
          split
          · rename_i hlt
            rw [if_pos (by omega)]
            exact hv t (by omega)
          · rename_i hlt
            rw [if_neg (by omega)]
            have : (List.replicate (fn.ntmps - args.length) AV.any).getD (t - args.length) .any = .any := by
              simp only [List.getD, List.getElem?_replicate]
              split <;> rfl
            rw [this]
            exact .any
        have fin : ∀ (e : Exit) (S' : St) (q : List Prop), (e = .normal ∨ e = .ret) → aCode P cl hs lp fuel c ⟨args ++ List.replicate (fn.ntmps - args.length) .any, hp⟩ = some (e, S', q) → allP q → (resAV P S'.fr S'.hp fn.results.toList).map (fun r => (r, S'.hp, q)) = some (r, hp', p) →
            Calls P f vs w fun e w' => ∃ v ι', e = .returned v ∧ X w ι w' ι' ∧ HpRel P w' ι' hp' ∧ VR P w' ι' true r v := by
          intro e S' q he hc hq hr
          obtain ⟨r1, hr1, hr2⟩ := Option.map_eq_some_iff.1 hr
          simp only [Prod.mk.injEq] at hr2
          obtain ⟨rfl, hhp, _⟩ := hr2
          refine calls_of_wp hf hb ?_
          refine (aCode_ok hX hm hcl hlp fuel c _ S' e q hc hq).1 w ι _ _ hS fun a' w' ι' hS' hext => ?_
          obtain ⟨v, hres, hrel⟩ := run_results (P := P) hS'.fr hS'.hp hr1
          rcases he with rfl | rfl
          · exact ⟨hS'.df, _, hres, _, ι', rfl, hext, by rw [← hhp]; exact hS'.hp, hrel⟩
          · exact ⟨hS'.df, _, hres, _, ι', rfl, hext, by rw [← hhp]; exact hS'.hp, hrel⟩
        split at h
        · rename_i S' q hc
          refine fin .normal S' q (.inl rfl) hc ?_ h
          obtain ⟨r1, _, hr2⟩ := Option.map_eq_some_iff.1 h
          simp only [Prod.mk.injEq] at hr2
          rw [hr2.2.2]; exact hp0
        · rename_i S' q hc
          refine fin .ret S' q (.inr rfl) hc ?_ h
          obtain ⟨r1, _, hr2⟩ := Option.map_eq_some_iff.1 h
          simp only [Prod.mk.injEq] at hr2
          rw [hr2.2.2]; exact hp0
        · simp at h
    · simp at h
  · simp at h

theorem lpNone (X : Rl) (P : Program) : LpOK X P (fun _ => none) := fun _ _ h => by cases h

/-- Calls, by contracts and by bodies. -/
theorem aCall_ok (hm : P.follows .mixedOrders = true) {sg : Specs} (hsg : ∀ f spec, sg f = some spec → SpecOK P f spec) (fuel : Nat) : ∀ n, CallOK P (aCall P sg fuel n)
  | 0 => fun f args hp r hp' p h => by simp [aCall] at h
  | n + 1 => by
    intro f args hp r hp' p h hp0 w ι vs hh hl hv
    simp only [aCall] at h
    split at h
    · rename_i spec hs
      split at h
      · rename_i l hf
        split at h
        · rename_i x hr
          obtain ⟨r0, q0⟩ := x
          exact bySpec_ok (hsg f spec hs) hh hl hv hf hr h hp0
        · simp at h
      · simp at h
    · exact aBody_ok rlExt hm (aCall_ok hm hsg fuel n) (lpNone _ _) h hp0 hh hl hv

end Go.Proofs.Ytljgmgbjfjhjmaa
