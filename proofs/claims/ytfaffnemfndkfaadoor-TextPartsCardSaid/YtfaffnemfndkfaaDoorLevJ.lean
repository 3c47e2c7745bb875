/- Code, loops, bodies, calls. -/
import Derived.Test.YtfaffnemfndkfaaDoorLevI
import Derived.LoopN
namespace Go.Proofs.YtfaffnemfndkfaaDoor
open Go.RowKit
set_option linter.unusedSimpArgs false
set_option linter.unusedVariables false

variable {P : Program}

/-- What stays as it was behind code that may give its blocks other numbers. -/
structure Ext0 (w : World) (ι : Pl) (w' : World) (ι' : Pl) : Prop where
  os : w'.os = w.os
  tape : w'.tape = w.tape
  output : w'.output = w.output
  size : w.heap.size ≤ w'.heap.size
  hid : ι'.hid = ι.hid
  hkeep : ∀ g, g < w.heap.size → ι.hid g → w'.heap[g]? = w.heap[g]?
  blk : ∀ g, g < w.heap.size → ι.un g → w'.heap[g]? = w.heap[g]? ∧ ι'.un g

theorem Ext.weak {w w' : World} {ι ι' : Pl} (h : Ext w ι w' ι') : Ext0 w ι w' ι' := ⟨h.os, h.tape, h.output, h.size, h.hid, h.hkeep, h.blk⟩

theorem Ext0.trans {w w' w'' : World} {ι ι' ι'' : Pl} (h : Ext0 w ι w' ι') (k : Ext0 w' ι' w'' ι'') : Ext0 w ι w'' ι'' :=
  ⟨k.os.trans h.os, k.tape.trans h.tape, k.output.trans h.output, Nat.le_trans h.size k.size, k.hid.trans h.hid,
    fun g hg hh => (k.hkeep g (Nat.lt_of_lt_of_le hg h.size) (by rw [h.hid]; exact hh)).trans (h.hkeep g hg hh),
    fun g hg hn => by
      obtain ⟨e1, n1⟩ := h.blk g hg hn
      obtain ⟨e2, n2⟩ := k.blk g (Nat.lt_of_lt_of_le hg h.size) n1
      exact ⟨e2.trans e1, n2⟩⟩

theorem Ext0.refl (w : World) (ι : Pl) : Ext0 w ι w ι := (Ext.refl w ι).weak

abbrev Rl := World → Pl → World → Pl → Prop

structure RlOK (X : Rl) : Prop where
  of : ∀ {w ι w' ι'}, Ext w ι w' ι' → X w ι w' ι'
  trans : ∀ {w ι w' ι' w'' ι''}, X w ι w' ι' → X w' ι' w'' ι'' → X w ι w'' ι''

theorem rlExt : RlOK Ext := ⟨id, Ext.trans⟩
theorem rlExt0 : RlOK Ext0 := ⟨Ext.weak, Ext0.trans⟩

variable [Gv]

/-- A piece of code, begun in S, comes to e and S'. -/
def Tri (X : Rl) (P : Program) (code : Code) (S : St) (e : Exit) (S' : St) : Prop :=
  ∀ w ι a Q, StRel P w ι S a → (∀ a' w' ι', StRel P w' ι' S' a' → X w ι w' ι' → Q e a' w') → code.wp P Q a w

theorem want_st {w : World} {ι : Pl} {S : St} {a : Act} {ops : Array Oper} {o : Oper} {b : Bool} (h : StRel P w ι S a) (hw : wantA ops S.fr o = some b) : Region.wanted o (yielded ops a.tmps) = b :=
  want_ok (fun _ d _ _ _ => h.fr.rel d) hw

theorem aOps_mono {cl : CallT} {hs : Hints} {ops : Array Oper} : ∀ (l : List Oper) (S S' : St) (p0 p : List Prop), aOps P cl hs ops l S p0 = some (S', p) → allP p → allP p0
  | [], S, S', p0, p, h, hp' => by
    simp only [aOps, Option.some.injEq, Prod.mk.injEq] at h
    rw [h.2]; exact hp'
  | o :: r, S, S', p0, p, h, hp' => by
    simp only [aOps] at h
    split at h
    · split at h
      · exact (allP_append (aOps_mono r _ _ _ _ h hp')).1
      · simp at h
    · exact aOps_mono r _ _ _ _ h hp'
    · simp at h

theorem aOps_ok {X : Rl} (hX : RlOK X) {cl : CallT} (hcl : CallOK P cl) {hs : Hints} {ops : Array Oper} {Q : Exit → Act → World → Prop} : ∀ (l : List Oper) (S S' : St) (p0 p : List Prop) (w : World) (ι : Pl) (a : Act),
    aOps P cl hs ops l S p0 = some (S', p) → allP p → StRel P w ι S a → (∀ a' w' ι', StRel P w' ι' S' a' → X w ι w' ι' → Q .normal a' w') → wpList P ops Q l a w
  | [], S, S', p0, p, w, ι, a, h, hp', hS, hQ => by
    simp only [aOps, Option.some.injEq, Prod.mk.injEq] at h
    obtain ⟨rfl, rfl⟩ := h
    exact hQ a w ι hS (hX.of (Ext.refl _ _))
  | o :: r, S, S', p0, p, w, ι, a, h, hp', hS, hQ => by
    simp only [aOps] at h
    unfold wpList
    split at h
    · rename_i hw
      split at h
      · rename_i S1 q hq
        rw [if_pos (want_st hS hw)]
        exact .inl (doOp_ok hcl hS hq (allP_append (aOps_mono r _ _ _ _ h hp')).2 fun a' w' ι' hS' hext => aOps_ok hX hcl r S1 S' _ p w' ι' a' h hp' hS' fun a2 w2 ι2 h2 e2 => hQ a2 w2 ι2 h2 (hX.trans (hX.of hext) e2))
      · simp at h
    · rename_i hw
      rw [if_neg (by rw [want_st hS hw]; simp)]
      exact aOps_ok hX hcl r _ S' _ p w ι _ h hp' (hS.put (show VR P w ι true uAV undef from .c) o.dst) hQ
    · simp at h

theorem draws_ok {X : Rl} (hX : RlOK X) (hm : P.follows .mixedOrders = true) {cl : CallT} (hcl : CallOK P cl) {hs : Hints} {id : Nat} {ops : Array Oper} {S S' : St} {fr' : List AV} {p1 p : List Prop} (hok : drawOk ops = true)
    (h : aOpsQ P cl hs ops S.hp (ops.toList.take (headN ops)) S.fr [] = some (fr', p1)) (h2 : aOps P cl hs ops (ops.toList.drop (headN ops)) ⟨fr', S.hp⟩ p1 = some (S', p)) (hp' : allP p) :
    Tri X P (.region id ops true) S .normal S' := by
  intro w ι a Q hS hQ
  have hle : headN ops ≤ ops.size := by unfold headN; omega
  obtain ⟨F, V, f1, f2, f3⟩ := aOpsQ_lex _ _ _ _ _ h (aOps_mono _ _ _ _ _ h2 hp')
  have hlen : (ops.toList.take (headN ops)).length = headN ops := by simp; omega
  rw [hlen] at f2
  have hlex : Lexical P cl hs ops S.hp (headN ops) S.fr fr' F V := ⟨hle, f1, f2, fun i o hi ho => f3 i o (by rw [List.getElem?_take_of_lt hi]; simpa using ho)⟩
  refine wp_region_any hm ?_
  have e0 := Ext.drew w ι
  refine orders_ok hcl hlex hok (w0 := w.drew) (ι := ι) (fun a' w' hS' hext => aOps_ok hX hcl _ _ S' p1 p w' ι a' h2 hp' hS' fun a2 w2 ι2 hS2 e2 => hQ a2 w2 ι2 hS2 (hX.trans (hX.of (e0.trans hext)) e2)) ops.size _ a w.drew (by simp) ?_ ?_ ?_ hS.fr.len.symm ?_ ?_ (Ext.refl _ _) hS.df
  · intro j o e hj
    exfalso
    by_cases hlt : j < ops.size <;> simp [Array.getD, hlt] at hj
  · intro i _
    by_cases hlt : i < ops.size <;> simp [Array.getD, hlt]
  · have := List.length_filter_le (fun i => !(Array.replicate ops.size false).getD i false) (List.range (headN ops))
    simp only [List.length_range] at this
    omega
  · intro t
    have : slotAt S.fr ops V (fun i => (Array.replicate ops.size false).getD i false) ops.size t = S.fr.getD t .any := by
      have gen : ∀ k, slotAt S.fr ops V (fun i => (Array.replicate ops.size false).getD i false) k t = S.fr.getD t .any := by
        intro k
        induction k with
        | zero => rfl
        | succ k ih =>
          simp only [slotAt]
          split
          · rw [if_neg]
            · exact ih
            · rintro ⟨hL, _⟩
              by_cases hlt : k < ops.size <;> simp [Array.getD, hlt] at hL
          · exact ih
      exact gen _
    rw [this]
    exact (hS.fr.rel t).mono e0
  · exact (HpRel.ext (w' := w.drew) hS.hp rfl rfl rfl (Nat.le_refl _) (fun _ _ => rfl)).2

/-- What is known of loops holds. -/
def LpOK (X : Rl) (P : Program) (lp : Nat → Option Lp) : Prop := ∀ k L, lp k = some L → ∀ w ι a Q S, StRel P w ι S a → L.fi.app S = L.E → (∀ a' w' ι', StRel P w' ι' L.R a' → X w ι w' ι' → Q L.e a' w') → (Code.loop L.body).wp P Q a w

theorem aCode_ok {X : Rl} (hX : RlOK X) (hm : P.follows .mixedOrders = true) {cl : CallT} (hcl : CallOK P cl) {hs : Hints} {lp : Nat → Option Lp} (hlp : LpOK X P lp) : ∀ (n : Nat) (code : Code) (S S' : St) (e : Exit) (p : List Prop),
    aCode P cl hs lp n code S = some (e, S', p) → allP p → Tri X P code S e S' ∧
      ∀ b, code = .loop b → (Code.rid b).bind lp = none → ∃ N, ∀ w ι a Q, StRel P w ι S a → (∀ a' w' ι', StRel P w' ι' S' a' → X w ι w' ι' → Q e a' w') → Code.rounds P b Q N a w := by
  intro n
  induction n with
  | zero => intro code S S' e p h; simp [aCode] at h
  | succ n ih =>
    intro code S S' e p h hp'
    have plain : Tri X P code S e S' → (∀ b, code ≠ .loop b) → Tri X P code S e S' ∧ ∀ b, code = .loop b → (Code.rid b).bind lp = none → ∃ N, ∀ w ι a Q, StRel P w ι S a → (∀ a' w' ι', StRel P w' ι' S' a' → X w ι w' ι' → Q e a' w') → Code.rounds P b Q N a w :=
      fun ht hn => ⟨ht, fun b hb => absurd hb (hn b)⟩
    unfold aCode at h
    split at h
    · -- skip
      simp only [Option.some.injEq, Prod.mk.injEq] at h
      obtain ⟨rfl, rfl, rfl⟩ := h
      exact plain (fun w ι a Q hS hQ => wp_skip (hQ a w ι hS (hX.of (Ext.refl _ _)))) (by simp)
    · -- a region
      split at h
      · rename_i S1 q hq
        simp only [Option.some.injEq, Prod.mk.injEq] at h
        obtain ⟨rfl, rfl, rfl⟩ := h
        exact plain (fun w ι a Q hS hQ => wp_region_list (aOps_ok hX hcl _ S S1 [] q w ι a hq hp' hS hQ)) (by simp)
      · simp at h
    · -- a region that draws
      split at h
      · rename_i hok
        split at h
        · rename_i fr q hq
          split at h
          · rename_i S1 q1 hq1
            simp only [Option.some.injEq, Prod.mk.injEq] at h
            obtain ⟨rfl, rfl, rfl⟩ := h
            exact plain (draws_ok hX hm hcl hok hq hq1 hp') (by simp)
          · simp at h
        · simp at h
      · simp at h
    · -- seq
      rename_i x y
      refine plain ?_ (by simp)
      intro w ι a Q hS hQ
      refine wp_seq ?_
      split at h
      · rename_i S1 q1 h1
        split at h
        · rename_i e2 S2 q2 h2
          simp only [Option.some.injEq, Prod.mk.injEq] at h
          obtain ⟨rfl, rfl, rfl⟩ := h
          refine (ih x S S1 .normal q1 h1 (allP_append hp').1).1 w ι a _ hS fun a1 w1 ι1 hS1 e1 => ?_
          exact (ih y S1 S2 e2 q2 h2 (allP_append hp').2).1 w1 ι1 a1 Q hS1 fun a2 w2 ι2 hS2 e2' => hQ a2 w2 ι2 hS2 (hX.trans e1 e2')
        · simp at h
      · rename_i r hne
        refine (ih x S S' e p h hp').1 w ι a _ hS fun a1 w1 ι1 hS1 e1 => ?_
        have := hQ a1 w1 ι1 hS1 e1
        cases e with
        | normal => exact absurd h (hne S' p)
        | _ => exact this
    · -- cond
      rename_i c x y
      refine plain ?_ (by simp)
      intro w ι a Q hS hQ
      have hc := hS.ev c
      split at h
      · rename_i hb
        rw [hb] at hc
        exact wp_cond_true hc.cInv ((ih x S S' e p h hp').1 w ι a Q hS hQ)
      · rename_i hb
        rw [hb] at hc
        exact wp_cond_false hc.cInv ((ih y S S' e p h hp').1 w ι a Q hS hQ)
      · simp at h
    · -- block
      rename_i id b
      refine plain ?_ (by simp)
      intro w ι a Q hS hQ
      refine wp_block ?_
      split at h
      · rename_i id' S1 q1 h1
        split at h
        · rename_i hid
          simp only [Option.some.injEq, Prod.mk.injEq] at h
          obtain ⟨rfl, rfl, rfl⟩ := h
          refine (ih b S S1 (.exit id') q1 h1 hp').1 w ι a _ hS fun a1 w1 ι1 hS1 e1 => ?_
          simp only [Exit.inBlock, hid, if_true]
          exact hQ a1 w1 ι1 hS1 e1
        · rename_i hid
          simp only [Option.some.injEq, Prod.mk.injEq] at h
          obtain ⟨rfl, rfl, rfl⟩ := h
          refine (ih b S S1 (.exit id') q1 h1 hp').1 w ι a _ hS fun a1 w1 ι1 hS1 e1 => ?_
          simp only [Exit.inBlock, hid, if_false]
          exact hQ a1 w1 ι1 hS1 e1
      · rename_i r hne
        refine (ih b S S' e p h hp').1 w ι a _ hS fun a1 w1 ι1 hS1 e1 => ?_
        have := hQ a1 w1 ι1 hS1 e1
        cases e with
        | exit id' => exact absurd h (hne id' S' p)
        | _ => exact this
    · -- loop
      rename_i b
      split at h
      · rename_i L hL
        simp only [Option.some.injEq, Prod.mk.injEq] at h
        obtain ⟨rfl, rfl, rfl⟩ := h
        obtain ⟨hb, hE, _⟩ := hp'
        obtain ⟨k, hk, hlk⟩ := Option.bind_eq_some_iff.1 hL
        refine ⟨fun w ι a Q hS hQ => ?_, fun b' hb' hn => ?_⟩
        · rw [hb]
          exact hlp k L hlk w ι a Q S hS hE hQ
        · cases hb'
          rw [hL] at hn; cases hn
      · rename_i hnone
        have key : ∃ N, ∀ w ι a Q, StRel P w ι S a → (∀ a' w' ι', StRel P w' ι' S' a' → X w ι w' ι' → Q e a' w') → Code.rounds P b Q N a w := by
          split at h
          · rename_i S1 q1 h1
            split at h
            · rename_i e2 S2 q2 h2
              simp only [Option.some.injEq, Prod.mk.injEq] at h
              obtain ⟨rfl, rfl, rfl⟩ := h
              have step := (ih b S S1 .normal q1 h1 (allP_append hp').1).1
              obtain ⟨N, hN⟩ := (ih (.loop b) S1 S2 e2 q2 h2 (allP_append hp').2).2 b rfl hnone
              refine ⟨N + 1, fun w ι a Q hS hQ => ?_⟩
              rw [rounds_succ]
              exact step w ι a _ hS fun a1 w1 ι1 hS1 e1 => hN w1 ι1 a1 Q hS1 fun a2 w2 ι2 hS2 e2' => hQ a2 w2 ι2 hS2 (hX.trans e1 e2')
            · simp at h
          · rename_i r hne
            refine ⟨1, fun w ι a Q hS hQ => ?_⟩
            rw [rounds_succ]
            refine (ih b S S' e p h hp').1 w ι a _ hS fun a1 w1 ι1 hS1 e1 => ?_
            have := hQ a1 w1 ι1 hS1 e1
            cases e with
            | normal => exact absurd h (hne S' p)
            | _ => exact this
        refine ⟨fun w ι a Q hS hQ => ?_, fun b' hb' _ => by cases hb'; exact key⟩
        obtain ⟨N, hN⟩ := key
        exact wp_loop_rounds N (hN w ι a Q hS hQ)
    · -- exit
      simp only [Option.some.injEq, Prod.mk.injEq] at h
      obtain ⟨rfl, rfl, rfl⟩ := h
      exact plain (fun w ι a Q hS hQ => wp_exit (hQ a w ι hS (hX.of (Ext.refl _ _)))) (by simp)
    · -- ret
      simp only [Option.some.injEq, Prod.mk.injEq] at h
      obtain ⟨rfl, rfl, rfl⟩ := h
      exact plain (fun w ι a Q hS hQ => wp_ret (hQ a w ι hS (hX.of (Ext.refl _ _)))) (by simp)
    · simp at h

omit [Gv] in
theorem resTmp_ok : ∀ {l : List ResultVar} {rs : List Nat}, resTmp l = some rs → l = rs.map .tmp
  | [], rs, h => by simp only [resTmp, Option.some.injEq] at h; subst h; rfl
  | .tmp t :: r, rs, h => by
    simp only [resTmp] at h
    cases hr : resTmp r with
    | none => rw [hr] at h; simp at h
    | some x =>
      rw [hr] at h
      simp only [Option.map_some, Option.some.injEq] at h
      subst h
      rw [resTmp_ok hr]
      rfl
  | .cell .. :: _, _, h => by simp [resTmp] at h

def resV (tmps : Array Value) : List Nat → Value
  | [t] => tmps.getD t undef
  | l => .tuple (l.map fun t => tmps.getD t undef).toArray

omit [Gv] in
theorem run_mapM_tmp (tmps : Array Value) (g : ResultVar → Sem Value) (hg : ∀ t, g (.tmp t) = pure (tmps.getD t undef)) (w : World) : ∀ (l : List Nat), ((l.map ResultVar.tmp).mapM g).run P w = .ok (l.map fun t => tmps.getD t undef) w
  | [] => by simp
  | t :: r => by
    simp only [List.map_cons, List.mapM_cons, hg]
    simp only [Sem.run_bind, Sem.run_pure, Result.andThen_ok, run_mapM_tmp tmps g hg w r]

omit [Gv] in
theorem run_results {fn : Func} {rs : List Nat} (h : fn.results.toList = rs.map .tmp) (tmps : Array Value) (w : World) :
    (results fn tmps).run P w = .ok (resV tmps rs) w := by
  have hr : fn.results = (rs.map ResultVar.tmp).toArray := by rw [← h]
  unfold results
  rw [hr, List.mapM_toArray]
  simp only [Sem.run_bind, Sem.run_map]
  rw [run_mapM_tmp tmps _ (fun t => rfl)]
  match rs with
  | [] => simp [resV]
  | [t] => simp [resV]
  | t :: u :: r => simp [resV]

omit [Gv] in
theorem resAV_ok {w : World} {ι : Pl} {fr : List AV} {tmps : Array Value} (h : FrRel P w ι fr tmps) (rs : List Nat) :
    VR P w ι true (resAV fr rs) (resV tmps rs) := by
  match rs with
  | [] => exact .tu (by simp) (by intro j hj; simp at hj)
  | [t] => exact h.rel t
  | t :: u :: r =>
    show VR P w ι true (.tu ((t :: u :: r).map fun t => fr.getD t .any)) (.tuple ((t :: u :: r).map fun t => tmps.getD t undef).toArray)
    refine .tu (by simp) ?_
    intro j hj
    have hj' : j < (t :: u :: r).length := by simpa using hj
    have e1 : ((t :: u :: r).map fun t => fr.getD t .any).getD j .any = fr.getD (t :: u :: r)[j] .any := by simp only [List.getD, List.getElem?_map, List.getElem?_eq_getElem hj', Option.map_some, Option.getD_some]
    have e2 : ((t :: u :: r).map fun t => tmps.getD t undef).toArray.getD j undef = tmps.getD (t :: u :: r)[j] undef := by rw [toArray_getD]; simp only [List.getD, List.getElem?_map, List.getElem?_eq_getElem hj', Option.map_some, Option.getD_some]
    rw [e1, e2]
    exact h.rel _

/-- A function's body, run. -/
theorem aBody_ok {X : Rl} (hX : RlOK X) (hm : P.follows .mixedOrders = true) {cl : CallT} (hcl : CallOK P cl) {hs : Hints} {lp : Nat → Option Lp} (hlp : LpOK X P lp) {fuel : Nat} {f : FuncId} {args : List AV} {hp : Heap} {r : AV} {hp' : Heap} {p : List Prop}
    (h : aBody P cl hs lp fuel f args hp = some (r, hp', p)) (hp0 : allP p) {w : World} {ι : Pl} {vs : Array Value} (hh : HpRel P w ι hp) (hl : args.length = vs.size) (hv : ∀ j, j < args.length → VR P w ι true (args.getD j .any) (vs.getD j undef)) :
    HasBody P f ∧ Calls P f vs w fun e w' => ∃ v ι', e = .returned v ∧ X w ι w' ι' ∧ HpRel P w' ι' hp' ∧ VR P w' ι' true r v := by
  unfold aBody at h
  split at h
  · rename_i fn hf
    split at h
    · rename_i c rs hb hrs
      split at h
      · simp at h
      · rename_i hname
        refine ⟨⟨fn, c, hf, hb, hname⟩, ?_⟩
        have hS : StRel P w ι ⟨args ++ List.replicate (fn.ntmps - args.length) .any, hp⟩ { tmps := vs ++ Array.replicate (fn.ntmps - vs.size) undef, defers := [] } := by
          refine ⟨⟨by simp [hl], fun t => ?_⟩, hh, rfl⟩
          rw [getD_append]
          have e2 : (vs ++ Array.replicate (fn.ntmps - vs.size) undef).getD t undef = if t < vs.size then vs.getD t undef else undef := by
            rw [← toList_getD, ← toList_getD]
            simp only [Array.toList_append, List.getD, List.getElem?_append, Array.length_toList, Array.toList_replicate, List.getElem?_replicate]
            split
            · rfl
            · split <;> rfl
          rw [e2]
          split
          · rename_i hlt
            rw [if_pos (by omega)]
            exact hv t (by omega)
          · rename_i hlt
            rw [if_neg (by omega)]
            have : (List.replicate (fn.ntmps - args.length) AV.any).getD (t - args.length) .any = .any := by
              simp only [List.getD, List.getElem?_replicate]
              split <;> rfl
            rw [this]
            exact .any
        have fin : ∀ (e : Exit) (S' : St) (q : List Prop), (e = .normal ∨ e = .ret) → aCode P cl hs lp fuel c ⟨args ++ List.replicate (fn.ntmps - args.length) .any, hp⟩ = some (e, S', q) → allP q → r = resAV S'.fr rs → hp' = S'.hp →
            Calls P f vs w fun e w' => ∃ v ι', e = .returned v ∧ X w ι w' ι' ∧ HpRel P w' ι' hp' ∧ VR P w' ι' true r v := by
          intro e S' q he hc hq hr hhp
          refine calls_of_wp hf hb ?_
          refine (aCode_ok hX hm hcl hlp fuel c _ S' e q hc hq).1 w ι _ _ hS fun a' w' ι' hS' hext => ?_
          have hres := run_results (P := P) (resTmp_ok hrs) a'.tmps w'
          have hrel := resAV_ok hS'.fr rs
          rw [← hr] at hrel
          rcases he with rfl | rfl
          · exact ⟨hS'.df, _, hres, _, ι', rfl, hext, by rw [hhp]; exact hS'.hp, hrel⟩
          · exact ⟨hS'.df, _, hres, _, ι', rfl, hext, by rw [hhp]; exact hS'.hp, hrel⟩
        split at h
        · rename_i S' q hc
          simp only [Option.some.injEq, Prod.mk.injEq] at h
          obtain ⟨e1, e2, e3⟩ := h
          exact fin .normal S' q (.inl rfl) hc (by rw [e3]; exact hp0) e1.symm e2.symm
        · rename_i S' q hc
          simp only [Option.some.injEq, Prod.mk.injEq] at h
          obtain ⟨e1, e2, e3⟩ := h
          exact fin .ret S' q (.inr rfl) hc (by rw [e3]; exact hp0) e1.symm e2.symm
        · simp at h
    · simp at h
  · simp at h

theorem lpNone (X : Rl) (P : Program) : LpOK X P (fun _ => none) := fun _ _ h => by cases h

/-- Calls, by contracts and by bodies. -/
theorem aCall_ok (hm : P.follows .mixedOrders = true) {sg : Specs} (hsg : ∀ f spec, sg f = some spec → SpecOK P f spec) (fuel : Nat) : ∀ n, CallOK P (aCall P sg fuel n)
  | 0 => fun f args hp r hp' p h => by simp [aCall] at h
  | n + 1 => by
    intro f args hp r hp' p h hp0 w ι vs hh hl hv
    simp only [aCall] at h
    split at h
    · rename_i spec hs
      split at h
      · rename_i l hf
        split at h
        · rename_i x hr
          obtain ⟨r0, q0⟩ := x
          exact bySpec_ok (hsg f spec hs) hh hl hv hf hr h hp0
        · simp at h
      · simp at h
    · exact aBody_ok rlExt hm (aCall_ok hm hsg fuel n) (lpNone _ _) h hp0 hh hl hv

end Go.Proofs.YtfaffnemfndkfaaDoor
