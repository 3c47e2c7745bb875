/- Each single operation does what its abstract twin says: those that leave memory alone. -/
import Derived.Test.YtljgmgbjfjhjmaaLevB
import Derived.ShutString
namespace Go.Proofs.Ytljgmgbjfjhjmaa
open Go.RowKit
set_option linter.unusedSimpArgs false
set_option linter.unusedVariables false

variable [Gv]

/-- What a command has left alone. -/
def CmdPost (w : World) (ι : Pl) (w' : World) (ι' : Pl) : Cmd → Prop
  | .nop => w' = w ∧ ι' = ι
  | .push _ => ∀ g, g < w.heap.size → w'.heap[g]? = w.heap[g]?
  | _ => True

/-- What an operation has come to. -/
def OpPost (P : Program) (w : World) (ι : Pl) (r : Result Next) (av : AV) (cmd : Cmd) (hp : Heap) : Prop :=
  ∃ n w' ι' v, r = .ok n w' ∧ (n = .value v ∨ (n = .skip ∧ v = undef)) ∧ Ext w ι w' ι' ∧ HpRel P w' ι' (cmd.run hp) ∧ VR P w' ι' true av v ∧ CmdPost w ι w' ι' cmd

theorem OpPost.pure_ {P : Program} {w : World} {ι : Pl} {r : Result Next} {av : AV} {hp : Heap} {v : Value} (hh : HpRel P w ι hp) (hr : r = .ok (.value v) w) (hv : VR P w ι true av v) : OpPost P w ι r av .nop hp :=
  ⟨_, w, ι, v, hr, .inl rfl, Ext.refl _ _, hh, hv, rfl, rfl⟩

omit [Gv] in
theorem run_value {P : Program} {w w' : World} {s : Sem Value} {v : Value} (h : s.run P w = .ok v w') : (do pure (Next.value (← s)) : Sem Next).run P w = .ok (.value v) w' := by
  simp [h, Result.andThen_ok]

omit [Gv] in
theorem isC_conc {a : AV} {P : Program} {w : World} {ι : Pl} {o : Bool} {v : Value} (hc : a.isC = true) (hv : VR P w ι o a v) : v = a.conc := by
  cases hv <;> simp [AV.isC] at hc
  rfl

omit [Gv] in
theorem VR.cInv {P : Program} {w : World} {ι : Pl} {o : Bool} {v u : Value} (h : VR P w ι o (.c v) u) : u = v := by cases h; rfl

omit [Gv] in
theorem sb_size (s : ByteArray) : (sb s).length = s.size := by unfold sb; rw [Array.length_toList]; rfl

omit [Gv] in
theorem byteC_rel {P : Program} {w : World} {ι : Pl} {o : Bool} (x : UInt8) : VR P w ι o (byteC x) (.int .u8 x.toNat) := .c

omit [Gv] in
theorem sBin_run {P : Program} (w : World) (op : BinOp) (t : TypeId) (x y : Operand) (a b v : Value) (h : sBin op a b = some v) :
    (do eqGuard op t x y a b; binOp op t a b : Sem Value).run P w = .ok v w := by
  unfold sBin at h
  split at h
  · rename_i k a k' b
    by_cases hk : k = k'
    · subst hk
      simp only [if_true] at h
      cases op <;> simp at h <;> subst h <;> simp [eqGuard, binOp, Op.intArith, Op.intCmp]
    · simp [hk] at h
  · rename_i a b
    cases op <;> simp at h <;> subst h <;> simp [eqGuard, binOp, Op.stringOp, ByteArray.toList_eq, sb]
  · simp at h

omit [Gv] in
theorem fBin_run {P : Program} (w : World) (op : BinOp) (t : TypeId) (x y : Operand) (a b v : Value) (k : Ck) (h : fBin op a b = some (k, v)) (hk : k.p) :
    (do eqGuard op t x y a b; binOp op t a b : Sem Value).run P w = .ok v w := by
  unfold fBin at h
  split at h
  · rename_i a b
    split at h
    · rename_i hf
      simp only [Option.some.injEq, Prod.mk.injEq] at h
      obtain ⟨rfl, rfl⟩ := h
      have hk : (floatBits op .f64 a b).isSome = true := hk
      obtain ⟨r, hr⟩ := Option.isSome_iff_exists.1 hk
      have hg : (eqGuard op t x y (.float .f64 a) (.float .f64 b) : Sem Unit) = pure () := by
        cases op <;> simp [fArith] at hf <;> rfl
      have hrun := run_float_arith (P := P) (w := w) op t .f64 a b r hr
      rw [hg, hr]
      exact hrun
    · simp at h
  · simp at h

theorem fallback_ok {P : Program} {w : World} {ι : Pl} {hp : Heap} {ev : Operand → AV} {ρ : Operand → Value} {o : Oper} {cks : List Ck} {av : AV} {cmd : Cmd}
    (hρ : ∀ x ∈ o.op.operands, VR P w ι true (ev x) (ρ x)) (hh : HpRel P w ι hp) (h : fallback P ev o = some (cks, av, cmd)) : OpPost P w ι ((execOp ρ o).run P w) av cmd hp := by
  have key : o.op.operands.all (fun x => (ev x).isC) = true → (∀ cs b, o.op ≠ .select cs b) → ∀ v, pr P (execOp (fun x => (ev x).conc) o) = some (.value v) → OpPost P w ι ((execOp ρ o).run P w) (.c v) .nop hp := by
    intro hall hs v hv
    have e : execOp ρ o = execOp (fun x => (ev x).conc) o := execOp_congr o hs fun x hx => by
      have hc : (ev x).isC = true := by
        rw [Array.all_eq_true_iff_forall_mem] at hall
        exact hall x hx
      exact isC_conc hc (hρ x hx)
    rw [e]
    exact .pure_ hh (pr_run P _ _ w hv) .c
  unfold fallback at h
  split at h
  all_goals first
    | (simp at h; done)
    | skip
  rename_i hn1 hn2 hn3 hn4 hn5
  split at h
  · rename_i hall
    split at h
    · rename_i v hv
      simp only [Option.some.injEq, Prod.mk.injEq] at h
      obtain ⟨_, rfl, rfl⟩ := h
      exact key hall (fun cs b e => hn3 cs b e) v hv
    · simp at h
  · simp at h

omit [Gv] in
theorem conj_append : ∀ {l k : List Ck}, Ck.conj (l ++ k) → Ck.conj l ∧ Ck.conj k
  | [], _, h => ⟨trivial, h⟩
  | _ :: _, _, h => ⟨⟨h.1, (conj_append h.2).1⟩, (conj_append h.2).2⟩

omit [Gv] in
theorem run_execOp {P : Program} {w w' : World} {ρ : Operand → Value} {o : Oper} {s : Sem Value} {v : Value} (he : execOp ρ o = (do pure (Next.value (← s)))) (h : s.run P w = .ok v w') : (execOp ρ o).run P w = .ok (.value v) w' := by
  rw [he]; exact run_value h

omit [Gv] in
theorem index_ok {P : Program} {w : World} {t : TypeId} {s : ByteArray} {k : IntKind} {i : Int} (ht : P.underlying t = some .string) (h0 : 0 ≤ i) (h1 : i < (sb s).length) :
    (Instr.index t (.string s) (.int k i)).run P w = .ok (.int .u8 ((sb s).getD i.toNat 0).toNat) w := by
  rw [sb_size] at h1
  rw [run_index_string w t s k i ht, dif_pos ⟨h0, h1⟩]
  have hn : i.toNat < s.size := by omega
  have : (sb s).getD i.toNat 0 = s[i.toNat] := by
    have hl : i.toNat < (sb s).length := by rw [sb_size]; exact hn
    simp [List.getD, List.getElem?_eq_getElem hl]
    rfl
  rw [this]

omit [Gv] in
theorem lohi_none {P : Program} {w : World} {ι : Pl} {ev : Operand → AV} {ρ : Operand → Value} {lo hi : Option Operand} {n : Nat} {l h : Int}
    (hlo : ∀ x ∈ lo, VR P w ι true (ev x) (ρ x)) (hhi : ∀ x ∈ hi, VR P w ι true (ev x) (ρ x)) (e : lohi ev lo hi n = some (l, h)) :
    ((lo.map ρ = none ∧ l = 0) ∨ ∃ k, lo.map ρ = some (.int k l)) ∧ ((hi.map ρ = none ∧ h = n) ∨ ∃ k, hi.map ρ = some (.int k h)) := by
  have get : ∀ {x : Option Operand} {k : IntKind} {m : Int}, (∀ y ∈ x, VR P w ι true (ev y) (ρ y)) → x.map ev = some (.c (.int k m)) → x.map ρ = some (.int k m) := by
    intro x k m hx hm
    cases x with
    | none => simp at hm
    | some y =>
      simp only [Option.map_some, Option.some.injEq] at hm ⊢
      have := hx y rfl
      rw [hm] at this
      exact this.cInv
  have getn : ∀ {x : Option Operand}, x.map ev = none → x.map ρ = none := by
    intro x hm
    cases x with
    | none => rfl
    | some y => simp at hm
  unfold lohi at e
  split at e
  · rename_i h1 h2
    simp only [Option.some.injEq, Prod.mk.injEq] at e
    obtain ⟨rfl, rfl⟩ := e
    exact ⟨.inl ⟨getn h1, rfl⟩, .inl ⟨getn h2, rfl⟩⟩
  · rename_i k m h1 h2
    simp only [Option.some.injEq, Prod.mk.injEq] at e
    obtain ⟨rfl, rfl⟩ := e
    exact ⟨.inr ⟨k, get hlo h1⟩, .inl ⟨getn h2, rfl⟩⟩
  · rename_i k m h1 h2
    simp only [Option.some.injEq, Prod.mk.injEq] at e
    obtain ⟨rfl, rfl⟩ := e
    exact ⟨.inl ⟨getn h1, rfl⟩, .inr ⟨k, get hhi h2⟩⟩
  · rename_i k m k' m' h1 h2
    simp only [Option.some.injEq, Prod.mk.injEq] at e
    obtain ⟨rfl, rfl⟩ := e
    exact ⟨.inr ⟨k, get hlo h1⟩, .inr ⟨k', get hhi h2⟩⟩
  · simp at e

omit [Gv] in
/-- The bounds of a slice expression, run. -/
theorem run_bounds {P : Program} {w : World} {isSlice : Bool} {len cap : Nat} {lo hi : Option Value} {l h : Int} (hlo : (lo = none ∧ l = 0) ∨ ∃ k, lo = some (.int k l)) (hhi : (hi = none ∧ h = len) ∨ ∃ k, hi = some (.int k h))
    (h0 : 0 ≤ l) (h1 : l ≤ h) (h2 : h ≤ len) (h3 : len ≤ cap) : (Instr.sliceBounds isSlice len cap lo hi none).run P w = .ok (l.toNat, h.toNat, cap) w := by
  have hb : ∀ (k : IntKind) (i : Int) (y : Nat) (c : BoundsCode), 0 ≤ i → i ≤ y → (Instr.sliceBound (.int k i) y c).run P w = .ok i.toNat w := by
    intro k i y c h0 h1
    simp [Instr.sliceBound, asIntOf, h0, h1]
  have hlh : (l : Int) ≤ (h.toNat : Int) := by omega
  have hhc : h ≤ (cap : Int) := by omega
  have hh0 : 0 ≤ h := by omega
  unfold Instr.sliceBounds
  rcases hlo with ⟨rfl, rfl⟩ | ⟨k, rfl⟩ <;> rcases hhi with ⟨rfl, rfl⟩ | ⟨k', rfl⟩
  · simp
  · simp [hb k' h cap _ hh0 hhc]
  · simp [hb k l len _ h0 (by omega)]
  · simp [hb k' h cap _ hh0 hhc, hb k l h.toNat _ h0 hlh]

omit [Gv] in
theorem extract_sb (s : ByteArray) (l h : Nat) : Value.string (s.extract l h) = str (((sb s).take h).drop l) := by
  unfold str
  congr 1
  have : (s.extract l h).data = ⟨((sb s).take h).drop l⟩ := by
    rw [ByteArray.data_extract]
    apply Array.ext'
    simp [sb, List.drop_take]
  cases hx : s.extract l h with
  | mk d => rw [hx] at this; simp at this; rw [this]

omit [Gv] in
theorem slice_string_ok {P : Program} {w : World} {t : TypeId} {s : ByteArray} {lo hi : Option Value} {l h : Int} (ht : P.underlying t = some .string) (hlo : (lo = none ∧ l = 0) ∨ ∃ k, lo = some (.int k l)) (hhi : (hi = none ∧ h = (sb s).length) ∨ ∃ k, hi = some (.int k h))
    (h0 : 0 ≤ l) (h1 : l ≤ h) (h2 : h ≤ (sb s).length) : (Instr.sliceAt t (.string s) lo hi none).run P w = .ok (str (((sb s).take h.toNat).drop l.toNat)) w := by
  rw [sb_size] at hhi h2
  have hb := run_bounds (P := P) (w := w) (isSlice := false) (cap := s.size) hlo hhi h0 h1 h2 (Nat.le_refl _)
  unfold Instr.sliceAt
  simp only [Sem.run_bind, run_underlying ht, Result.andThen_ok]
  unfold Instr.slice
  simp only [Sem.run_bind, run_underlying ht, Result.andThen_ok, Option.isSome_none, Bool.false_eq_true, if_false, hb, Sem.run_pure]
  rw [extract_sb]

omit [Gv] in
theorem drop_getD (l : List AV) (k j : Nat) : (l.drop k).getD j .any = l.getD (k + j) .any := by simp [List.getD]
omit [Gv] in
theorem take_getD (l : List AV) (k j : Nat) (h : j < k) : (l.take k).getD j .any = l.getD j .any := by simp [List.getD, h]
omit [Gv] in
theorem getD_append (l k : List AV) (j : Nat) : (l ++ k).getD j .any = if j < l.length then l.getD j .any else k.getD (j - l.length) .any := by
  simp only [List.getD, List.getElem?_append]
  split <;> rfl

omit [Gv] in
/-- A piece of a slice that is only read. -/
theorem VR.fsCut {P : Program} {w : World} {ι : Pl} {o : Bool} {s n : Nat} {L : List AV} {v : Value} (h : VR P w ι o (.fs s n L) v) {lo hi : Nat} (h1 : lo ≤ hi) (h2 : hi ≤ n) :
    ∃ a cap, v = .slice a n cap ∧ n ≤ cap ∧ VR P w ι o (.fs s (hi - lo) ((L.take (hi * s)).drop (lo * s))) (.slice (if cap = lo then a else a.map (·.add (lo * s))) (hi - lo) (cap - lo)) := by
  cases h with
  | fsZero =>
    obtain rfl : hi = 0 := by omega
    obtain rfl : lo = 0 := by omega
    exact ⟨_, _, rfl, Nat.zero_le _, by simpa using VR.fsZero⟩
  | fs hn hl hg hno hc ho hr =>
    rename_i g off cap us
    refine ⟨_, _, rfl, hn, ?_⟩
    by_cases hz : hi - lo = 0
    · have e1 : (L.take (hi * s)).drop (lo * s) = [] := by
        have : hi = lo := by omega
        subst this
        exact List.drop_eq_nil_of_le (by simp; omega)
      rw [e1, hz]
      exact .fsZero
    · have hcl : ¬ cap = lo := by omega
      rw [if_neg hcl]
      have ea : (Option.map (fun x : Addr => x.add (lo * s)) (some ⟨g, off, none⟩)) = some ⟨g, off + lo * s, none⟩ := by
        simp [Addr.add]
      rw [ea]
      have hll : ((L.take (hi * s)).drop (lo * s)).length ≤ (hi - lo) * s := by
        rw [List.length_drop, List.length_take, Nat.sub_mul]; omega
      have hll2 : ((L.take (hi * s)).drop (lo * s)).length + lo * s ≤ max L.length (lo * s) := by
        rw [List.length_drop, List.length_take]; omega
      have hll3 : ((L.take (hi * s)).drop (lo * s)).length + lo * s ≤ max (hi * s) (lo * s) := by
        rw [List.length_drop, List.length_take]; omega
      refine .fs (us := fun j => us (lo * s + j)) (by omega) hll hg hno ?_ ?_ ?_
      · intro j hj
        have := hc (lo * s + j) (by omega)
        rw [← Nat.add_assoc] at this
        exact this
      · intro j hj
        exact ho _ (by omega)
      · intro j hj
        rw [drop_getD, take_getD _ _ _ (by omega)]
        exact hr _ (by omega)

omit [Gv] in
theorem VR.slCut {P : Program} {w : World} {ι : Pl} {b off n : Nat} {v : Value} (h : VR P w ι true (.sl b off n) v) (hnd : ι b ≠ .dead) {B : Blk} (hB : SlotOK P w ι b (some (some B))) {lo hi : Nat} (h1 : lo ≤ hi) (h2 : hi ≤ n) :
    ∃ a cap, v = .slice a n cap ∧ n ≤ cap ∧ VR P w ι true (.sl b (lo + off) (hi - lo)) (.slice (if cap = lo then a else a.map (·.add (lo * P.cellsOf B.e))) (hi - lo) (cap - lo)) := by
  cases h with
  | slDead hd => exact absurd hd hnd
  | slZero =>
    obtain rfl : hi = 0 := by omega
    obtain rfl : lo = 0 := by omega
    exact ⟨_, _, rfl, Nat.zero_le _, by simpa using VR.slZero⟩
  | slAt hg hh hn hs hm =>
    rename_i g cap cur e fz
    refine ⟨_, _, rfl, hn, ?_⟩
    have he : B.e = e := by
      rcases hB with ⟨k1, _⟩ | ⟨g', cur', fz', k1, k2, _⟩ | ⟨g', _, _, k1, _, k2, _⟩
      · rw [hg] at k1; cases k1
      · rw [hg] at k1; cases k1
        rw [hh] at k2; cases k2; rfl
      · rw [hg] at k1; cases k1
        rw [hh] at k2; cases k2
    rw [he]
    by_cases hcl : cap = lo
    · have hz : hi - lo = 0 := by omega
      have hz2 : cap - lo = 0 := by omega
      rw [hz, hz2]
      exact .slZero
    · rw [if_neg hcl]
      have ea : (Option.map (fun x : Addr => x.add (lo * P.cellsOf e)) (some ⟨g, off * P.cellsOf e, none⟩)) = some ⟨g, (lo + off) * P.cellsOf e, none⟩ := by
        simp only [Option.map_some, Addr.add]
        split
        · rename_i hz; rw [Nat.add_mul, hz]; simp
        · simp [Nat.add_mul, Nat.add_comm]
      rw [ea]
      refine .slAt hg hh (by omega) ?_ (by omega)
      rw [← hs]; congr 1; omega

omit [Gv] in
/-- 'x[lo:hi]' of a slice. -/
theorem slice_slice_ok {P : Program} {w : World} {t e : TypeId} {a : Option Addr} {n cap : Nat} {lo hi : Option Value} {l h : Int} (ht : P.underlying t = some (.slice e)) (hi_ : ∃ i, P.info? e = some i)
    (hlo : (lo = none ∧ l = 0) ∨ ∃ k, lo = some (.int k l)) (hhi : (hi = none ∧ h = n) ∨ ∃ k, hi = some (.int k h))
    (h0 : 0 ≤ l) (h1 : l ≤ h) (h2 : h ≤ n) (hn : n ≤ cap) : (Instr.sliceAt t (.slice a n cap) lo hi none).run P w = .ok (.slice (if cap = l.toNat then a else a.map (·.add (l.toNat * P.cellsOf e))) (h.toNat - l.toNat) (cap - l.toNat)) w := by
  obtain ⟨i, hi_⟩ := hi_
  have hb := run_bounds (P := P) (w := w) (isSlice := true) (cap := cap) hlo hhi h0 h1 h2 hn
  have hz : P.cellsOf e = i.size := by simp [Program.cellsOf, hi_]
  unfold Instr.sliceAt
  simp only [Sem.run_bind, run_underlying ht, Result.andThen_ok]
  unfold Instr.slice
  simp only [Sem.run_bind, run_underlying ht, Result.andThen_ok, hb]
  simp [sizeOf, typeInfo, hi_, hz]

end Go.Proofs.Ytljgmgbjfjhjmaa
