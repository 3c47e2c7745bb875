/- Loops that keep the blocks that were there: contracts over owned blocks of functions with loops. -/
import Derived.Test.YtljgmgbjfjhjmaaLevO
namespace Go.Proofs.Ytljgmgbjfjhjmaa
open Go.RowKit
set_option linter.unusedVariables false
set_option linter.unusedSimpArgs false

/-- As Ext0; and of the first k blocks each is where it was, or given up. -/
structure ExtK (k : Nat) (w : World) (ι : Pl) (w' : World) (ι' : Pl) : Prop where
  weak : Ext0 w ι w' ι'
  own : ∀ b g, b < k → ι b = .here g → ι' b = .dead ∨ (ι' b = .here g ∧ ∀ cur e fz, w.heap[g]? = some (.cells cur e fz) → ∃ cur' fz', w'.heap[g]? = some (.cells cur' e fz') ∧ cur'.size = cur.size)
  dead : ∀ b, b < k → ι b = .dead → ι' b = .dead

theorem Ext.toK (k : Nat) {w w' : World} {ι ι' : Pl} (h : Ext w ι w' ι') : ExtK k w ι w' ι' := ⟨h.weak, fun b g _ hb => h.own b g hb, fun b _ hb => h.dead b hb⟩

theorem ExtK.trans {k : Nat} {w w' w'' : World} {ι ι' ι'' : Pl} (h : ExtK k w ι w' ι') (j : ExtK k w' ι' w'' ι'') : ExtK k w ι w'' ι'' := by
  refine ⟨h.weak.trans j.weak, fun b g hk hb => ?_, fun b hk hb => j.dead b hk (h.dead b hk hb)⟩
  rcases h.own b g hk hb with h1 | ⟨h1, h2⟩
  · exact .inl (j.dead b hk h1)
  · rcases j.own b g hk h1 with h3 | ⟨h3, h4⟩
    · exact .inl h3
    · refine .inr ⟨h3, fun cur e fz hc => ?_⟩
      obtain ⟨cur1, fz1, e1, e2⟩ := h2 cur e fz hc
      obtain ⟨cur2, fz2, e3, e4⟩ := h4 cur1 e fz1 e1
      exact ⟨cur2, fz2, e3, e4.trans e2⟩

theorem rlExtK (k : Nat) : RlOK (ExtK k) := ⟨fun h => h.toK k, ExtK.trans⟩

/-- A telling anew that leaves the first k blocks their numbers. -/
abbrev Fi.keeps (f : Fi) (k : Nat) : Prop := f.m.Nodup ∧ f.m.take k = List.range k

variable [Gv] {P : Program}

theorem Fi.okK {k : Nat} {w : World} {ι : Pl} {S : St} {a : Act} (f : Fi) (hnd : f.keeps k) (h : StRel P w ι S a) : ∃ ι', StRel P w ι' (f.app S) a ∧ ExtK k w ι w ι' := by
  obtain ⟨ι1, h1, e1⟩ := virt_ok f.ns h
  obtain ⟨h2, e2⟩ := fin_ok (keep := f.keep) hnd.1 h1
  have hat : ∀ b, b < k → f.m[b]? = some b := by
    intro b hb
    have e : (f.m.take k)[b]? = (List.range k)[b]? := by rw [hnd.2]
    rw [List.getElem?_take_of_lt hb, List.getElem?_range hb] at e
    exact e
  refine ⟨_, h2, (e1.toK k).trans ⟨e2, fun b g hk hb => .inr ⟨?_, fun cur e fz hc => ⟨cur, fz, hc, rfl⟩⟩, fun b hk hb => ?_⟩⟩
  · rw [ren_at (hat b hk), hb]; rfl
  · rw [ren_at (hat b hk), hb]; rfl

def RoundK (k : Nat) (P : Program) (cl : CallT) (b : Code) (S : St) (e : Exit) (S' : St) : Prop :=
  ∃ (hs : Hints) (lp : Nat → Option Lp) (fuel : Nat) (fi : Fi) (p : List Prop), LpOK (ExtK k) P lp ∧ fi.keeps k ∧ roundOut fi (aCode P cl hs lp fuel b S) = some (e, S', p) ∧ allP p

theorem RoundK.tri {k : Nat} {cl : CallT} (hm : P.follows .mixedOrders = true) (hcl : CallOK P cl) {b : Code} {S S' : St} {e : Exit} (h : RoundK k P cl b S e S') : Tri (ExtK k) P b S e S' := by
  obtain ⟨hs, lp, fuel, fi, p, hlp, hnd, hc, hp⟩ := h
  intro w ι a Q hS hQ
  cases hcc : aCode P cl hs lp fuel b S with
  | none => rw [hcc] at hc; simp [roundOut] at hc
  | some x =>
    obtain ⟨e1, S1, p1⟩ := x
    rw [hcc] at hc
    simp only [roundOut, Option.some.injEq, Prod.mk.injEq] at hc
    obtain ⟨rfl, hS1, rfl⟩ := hc
    refine (aCode_ok (rlExtK k) hm hcl hlp fuel b S S1 e1 p1 hcc hp).1 w ι a Q hS fun a' w' ι' hS' hext => ?_
    obtain ⟨ι2, h2, e2⟩ := fi.okK hnd hS'
    rw [hS1] at h2
    exact hQ a' w' ι2 h2 (hext.trans e2)

/-- A loop whose states keep a promise. -/
theorem loop_invK {k : Nat} {α : Type} {cl : CallT} (hm : P.follows .mixedOrders = true) (hcl : CallOK P cl) {b : Code} (I : α → St) (Inv : α → Prop) (μ : α → Nat) {e : Exit} {R : St}
    (round : ∀ x, Inv x → (∃ x', Inv x' ∧ μ x' < μ x ∧ RoundK k P cl b (I x) .normal (I x')) ∨ (e ≠ .normal ∧ RoundK k P cl b (I x) e R)) (x0 : α) (h0 : Inv x0) : Tri (ExtK k) P (.loop b) (I x0) e R := by
  have key : ∀ n x, Inv x → μ x < n → ∀ w ι a Q, StRel P w ι (I x) a → (∀ a' w' ι', StRel P w' ι' R a' → ExtK k w ι w' ι' → Q e a' w') → Code.rounds P b Q n a w := by
    intro n
    induction n with
    | zero => intro x _ h; omega
    | succ n ih =>
      intro x hi hx w ι a Q hS hQ
      rw [rounds_succ]
      rcases round x hi with ⟨x', hi', hlt, hr⟩ | ⟨hne, hr⟩
      · exact hr.tri hm hcl w ι a _ hS fun a1 w1 ι1 hS1 e1 => ih x' hi' (by omega) w1 ι1 a1 Q hS1 fun a2 w2 ι2 hS2 e2 => hQ a2 w2 ι2 hS2 (e1.trans e2)
      · refine hr.tri hm hcl w ι a _ hS fun a1 w1 ι1 hS1 e1 => ?_
        have := hQ a1 w1 ι1 hS1 e1
        cases e with
        | normal => exact absurd rfl hne
        | _ => exact this
  intro w ι a Q hS hQ
  exact wp_loop_rounds _ (key (μ x0 + 1) x0 h0 (by omega) w ι a Q hS hQ)

theorem loop_upK {k : Nat} {cl : CallT} (hm : P.follows .mixedOrders = true) (hcl : CallOK P cl) {b : Code} (I : Nat → St) (n : Nat) {e : Exit} {R : St} (he : e ≠ .normal)
    (round : ∀ i, i < n → RoundK k P cl b (I i) .normal (I (i + 1))) (stop : RoundK k P cl b (I n) e R) (i : Nat) (hi : i ≤ n) : Tri (ExtK k) P (.loop b) (I i) e R :=
  loop_invK hm hcl I (fun i => i ≤ n) (fun i => n - i) (fun i hi => by
    by_cases h : i < n
    · exact .inl ⟨i + 1, h, by omega, round i h⟩
    · have : i = n := by omega
      subst this
      exact .inr ⟨he, stop⟩) i hi

theorem lpBy_nilK {k : Nat} : LpOK (ExtK k) P (lpBy []) := fun _ _ h => by cases h

theorem lpBy_consK {m k : Nat} {L : Lp} {r : List (Nat × Lp)} (hlp : LpOK (ExtK k) P (lpBy r)) (hnd : L.fi.keeps k) (h : Tri (ExtK k) P (.loop L.body) L.E L.e L.R) : LpOK (ExtK k) P (lpBy ((m, L) :: r)) := by
  intro i L' hL
  have hL : (if i = m then some L else lpBy r i) = some L' := hL
  split at hL
  · cases hL
    intro w ι a Q S hS hE hQ
    obtain ⟨ι2, h2, e2⟩ := L.fi.okK hnd hS
    rw [hE] at h2
    exact h w ι2 a Q h2 fun a' w' ι' hS' hext => hQ a' w' ι' hS' (e2.trans hext)
  · exact hlp i L' hL

theorem ext_of_extK {w w' : World} {ι ι' : Pl} {hp : Heap} (h0 : HpRel P w ι hp) (e : ExtK hp.length w ι w' ι') : Ext w ι w' ι' := by
  have hf : ∀ b, hp.length ≤ b → ι b = .fresh := fun b hb => by have := h0.blk b; rw [List.getElem?_eq_none hb] at this; exact this
  refine ⟨e.weak.os, e.weak.tape, e.weak.output, e.weak.size, e.weak.hid, e.weak.hkeep, e.weak.blk, fun b g hb => ?_, fun b hb => ?_⟩
  · rcases Nat.lt_or_ge b hp.length with h | h
    · exact e.own b g h hb
    · rw [hf b h] at hb; cases hb
  · rcases Nat.lt_or_ge b hp.length with h | h
    · exact e.dead b h hb
    · rw [hf b h] at hb; cases hb

/-- A contract over blocks, out of a body with loops; some blocks are given up at its end. -/
theorem hspec_any (hm : P.follows .mixedOrders = true) {f : FuncId} {spec : HSpec}
    (h : ∀ args hp r hp' q, spec args hp = some (r, hp', q) → allP q → ∃ cl ks hs lp fuel p, CallOK P cl ∧ LpOK (ExtK hp.length) P lp ∧ outKill ks (aBody P cl hs lp fuel f args hp) = some (r, hp', p) ∧ allP p) : HSpecOK P f spec := by
  intro args hp r hp' q hspec hq w ι vs hh hl hv
  obtain ⟨cl, ks, hs, lp, fuel, p, hcl, hlp, hb, hp0⟩ := h args hp r hp' q hspec hq
  cases hb1 : aBody P cl hs lp fuel f args hp with
  | none => rw [hb1] at hb; simp [outKill] at hb
  | some x =>
    obtain ⟨r1, hp1, p1⟩ := x
    rw [hb1] at hb
    simp only [outKill, Option.some.injEq, Prod.mk.injEq] at hb
    obtain ⟨rfl, rfl, rfl⟩ := hb
    obtain ⟨hbody, hcalls⟩ := aBody_ok (rlExtK hp.length) hm hcl hlp hb1 hp0 hh hl hv
    refine ⟨hbody, hcalls.mono fun e w' ⟨v, ι', he, hext, hhp, hr⟩ => ?_⟩
    obtain ⟨ι2, e2, h2⟩ := killAll_ok ks hhp
    exact ⟨v, ι2, he, (ext_of_extK hh hext).trans e2, h2, hr.mono e2⟩

theorem hspec_lp (hm : P.follows .mixedOrders = true) {cl : CallT} (hcl : CallOK P cl) {f : FuncId} {spec : HSpec}
    (h : ∀ args hp r hp' q, spec args hp = some (r, hp', q) → allP q → ∃ ks hs lp fuel p, LpOK (ExtK hp.length) P lp ∧ outKill ks (aBody P cl hs lp fuel f args hp) = some (r, hp', p) ∧ allP p) : HSpecOK P f spec :=
  hspec_any hm fun args hp r hp' q h1 h2 => by
    obtain ⟨ks, hs, lp, fuel, p, k1, k2, k3⟩ := h args hp r hp' q h1 h2
    exact ⟨cl, ks, hs, lp, fuel, p, hcl, k1, k2, k3⟩

end Go.Proofs.Ytljgmgbjfjhjmaa
