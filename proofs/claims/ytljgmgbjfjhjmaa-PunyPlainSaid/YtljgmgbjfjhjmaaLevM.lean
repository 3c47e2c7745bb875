/- Calls by contracts that take and leave owned blocks: the blocks that a call can reach, under numbers of their own. -/
import Derived.Test.YtljgmgbjfjhjmaaLevL
namespace Go.Proofs.Ytljgmgbjfjhjmaa
open Go.RowKit
set_option linter.unusedSimpArgs false
set_option linter.unusedVariables false

variable [Gv] {P : Program}

/-- A contract over the blocks that a call reaches: arguments and blocks to a result, the blocks behind, what must hold. -/
abbrev HSpec := List AV → Heap → Option (AV × Heap × List Prop)

abbrev HSpecs := FuncId → Option HSpec

def HSpecOK [Gv] (P : Program) (f : FuncId) (spec : HSpec) : Prop :=
  ∀ args hp r hp' p, spec args hp = some (r, hp', p) → allP p → ∀ w ι (vs : Array Value), HpRel P w ι hp → args.length = vs.size → (∀ j, j < args.length → VR P w ι true (args.getD j .any) (vs.getD j undef)) →
    HasBody P f ∧ Calls P f vs w fun e w' => ∃ v ι', e = .returned v ∧ Ext w ι w' ι' ∧ HpRel P w' ι' hp' ∧ VR P w' ι' true r v

mutual
/-- The owned blocks that a value refers to. -/
def AV.refs : AV → List Nat
  | .sl b _ _ | .pt b _ | .itr b => [b]
  | .ag l | .tu l | .fn _ l => AV.refsAll l
  | _ => []
def AV.refsAll : List AV → List Nat
  | [] => []
  | a :: r => AV.refs a ++ AV.refsAll r
end

def dedup : List Nat → List Nat → List Nat
  | [], acc => acc
  | x :: r, acc => dedup r (if acc.contains x then acc else acc ++ [x])

/-- The blocks that can be reached from some. -/
def reach (hp : Heap) : Nat → List Nat → List Nat
  | 0, acc => acc
  | n + 1, acc => reach hp n (dedup (acc.flatMap fun b => match hp[b]? with
    | some (some B) => if B.op then AV.refsAll B.cells else []
    | _ => []) acc)

def nodupB : List Nat → Bool
  | [] => true
  | x :: r => !r.contains x && nodupB r

omit [Gv] in
theorem nodupB_spec : ∀ {l : List Nat}, nodupB l = true → l.Nodup
  | [], _ => List.nodup_nil
  | x :: r, h => by
    simp only [nodupB, Bool.and_eq_true, Bool.not_eq_true', List.contains_eq_mem, decide_eq_false_iff_not] at h
    exact List.nodup_cons.2 ⟨h.1, nodupB_spec h.2⟩

mutual
def AV.out (f : Nat → Nat) : AV → AV
  | .sl b off n => .sl (f b) off n
  | .pt b off => .pt (f b) off
  | .itr b => .itr (f b)
  | .ag l => .ag (AV.outAll f l)
  | .tu l => .tu (AV.outAll f l)
  | .fn g l => .fn g (AV.outAll f l)
  | a => a
def AV.outAll (f : Nat → Nat) : List AV → List AV
  | [] => []
  | a :: r => AV.out f a :: AV.outAll f r
end

def outBlk (f : Nat → Nat) (B : Blk) : Blk := if B.op then { B with cells := AV.outAll f B.cells } else B

/-- A reached block's number among the caller's. -/
def backTo (m : List Nat) (N : Nat) (i : Nat) : Nat := if i < m.length then m.getD i 0 else N + (i - m.length)

def backHeap (m : List Nat) (hp hp' : Heap) : Heap :=
  (List.range (hp.length + (hp'.length - m.length))).map fun b =>
    if b < hp.length then
      match m.findIdx? (· == b) with
      | some i => (hp'.getD i none).map (outBlk (backTo m hp.length))
      | none => hp.getD b none
    else (hp'.getD (m.length + (b - hp.length)) none).map (outBlk (backTo m hp.length))

def hCall (spec : HSpec) (args : List AV) (hp : Heap) : Option (AV × Heap × List Prop) :=
  let m := reach hp 3 (dedup (AV.refsAll args) [])
  match spec (AV.renAll m args) (m.map fun b => (hp.getD b none).map (renBlk m)) with
  | some (r, hp', q) => if nodupB m = true ∧ m.length ≤ hp'.length ∧ m.all (fun b => decide (b < hp.length)) = true then
      some (r.out (backTo m hp.length), backHeap m hp hp', q)
    else none
  | none => none

noncomputable def aCallH [Gv] (P : Program) (sg : Specs) (hsg : HSpecs) (fuel : Nat) : Nat → CallT
  | 0 => fun _ _ _ => none
  | n + 1 => fun f args hp => match hsg f with
    | some spec => hCall spec args hp
    | none => match sg f with
      | some spec => match freezeAll hp P args with
        | some as => match spec as with
          | some r => bySpec P f args hp r
          | none => none
        | none => none
      | none => aBody P (aCallH P sg hsg fuel n) {} (fun _ => none) fuel f args hp

omit [Gv] in
/-- Values under other numbers of blocks. -/
theorem VR.renTo {w : World} {ι κ : Pl} {m : List Nat} (h1 : ∀ i b, m[i]? = some b → κ i = (ι b).unfresh) (h2 : ∀ g, ι.un g → κ.un g) {o : Bool} {a : AV} {v : Value} (hv : VR P w ι o a v) : VR P w κ o (a.ren m) v := by
  induction hv with
  | any => simp only [AV.ren]; exact .any
  | c => simp only [AV.ren]; exact .c
  | slDead hd =>
    simp only [AV.ren]
    split
    · rename_i i hi
      exact .slDead (by rw [h1 _ _ (findIdx_spec hi), hd]; rfl)
    · exact .any
  | slZero =>
    simp only [AV.ren]
    split
    · exact .slZero
    · exact .any
  | slAt hg hh hn hs hm =>
    simp only [AV.ren]
    split
    · rename_i i hi
      exact .slAt (by rw [h1 _ _ (findIdx_spec hi), hg]; rfl) hh hn hs hm
    · exact .any
  | ptDead hd =>
    simp only [AV.ren]
    split
    · rename_i i hi
      exact .ptDead (by rw [h1 _ _ (findIdx_spec hi), hd]; rfl)
    · exact .any
  | pt hg hh =>
    simp only [AV.ren]
    split
    · rename_i i hi
      exact .pt (by rw [h1 _ _ (findIdx_spec hi), hg]; rfl) hh
    · exact .any
  | itrDead hd =>
    simp only [AV.ren]
    split
    · rename_i i hi
      exact .itrDead (by rw [h1 _ _ (findIdx_spec hi), hd]; rfl)
    · exact .any
  | itr hg =>
    simp only [AV.ren]
    split
    · rename_i i hi
      exact .itr (by rw [h1 _ _ (findIdx_spec hi), hg]; rfl)
    · exact .any
  | fsZero => simp only [AV.ren]; exact .fsZero
  | fs hn hl hg hno hc h1' hr _ => simp only [AV.ren]; exact .fs hn hl hg (h2 _ hno) hc h1' fun j hj => (hr j hj).shrink rfl h2
  | fp hg hno hc h1' hr _ => simp only [AV.ren]; exact .fp hg (h2 _ hno) hc h1' fun j hj => (hr j hj).shrink rfl h2
  | ag hl h1' _ ih =>
    simp only [AV.ren]
    exact .ag (by rw [renAll_length]; exact hl) (fun j hj => h1' j (by rw [renAll_length] at hj; exact hj)) fun j hj => by rw [renAll_getD]; exact ih j (by rw [renAll_length] at hj; exact hj)
  | tu hl _ ih =>
    simp only [AV.ren]
    exact .tu (by rw [renAll_length]; exact hl) fun j hj => by rw [renAll_getD]; exact ih j (by rw [renAll_length] at hj; exact hj)
  | fn hl _ ih =>
    simp only [AV.ren]
    exact .fn (by rw [renAll_length]; exact hl) fun j hj => by rw [renAll_getD]; exact ih j (by rw [renAll_length] at hj; exact hj)

omit [Gv] in
theorem outAll_length (f : Nat → Nat) : ∀ l : List AV, (AV.outAll f l).length = l.length
  | [] => rfl
  | a :: r => by simp [AV.outAll, outAll_length f r]

omit [Gv] in
theorem outAll_getD (f : Nat → Nat) : ∀ (l : List AV) (j : Nat), (AV.outAll f l).getD j .any = (l.getD j .any).out f
  | [], j => by simp [AV.outAll, AV.out]
  | a :: r, 0 => by simp [AV.outAll]
  | a :: r, j + 1 => by simpa [AV.outAll] using outAll_getD f r j

omit [Gv] in
theorem VR.outTo {w : World} {κ ι : Pl} {f : Nat → Nat} (h1 : ∀ i, ι (f i) = κ i) (h2 : ∀ g, κ.un g → ι.un g) {o : Bool} {a : AV} {v : Value} (hv : VR P w κ o a v) : VR P w ι o (a.out f) v := by
  induction hv with
  | any => simp only [AV.out]; exact .any
  | c => simp only [AV.out]; exact .c
  | slDead hd => simp only [AV.out]; exact .slDead (by rw [h1, hd])
  | slZero => simp only [AV.out]; exact .slZero
  | slAt hg hh hn hs hm => simp only [AV.out]; exact .slAt (by rw [h1, hg]) hh hn hs hm
  | ptDead hd => simp only [AV.out]; exact .ptDead (by rw [h1, hd])
  | pt hg hh => simp only [AV.out]; exact .pt (by rw [h1, hg]) hh
  | itrDead hd => simp only [AV.out]; exact .itrDead (by rw [h1, hd])
  | itr hg => simp only [AV.out]; exact .itr (by rw [h1, hg])
  | fsZero => simp only [AV.out]; exact .fsZero
  | fs hn hl hg hno hc h1' hr _ => simp only [AV.out]; exact .fs hn hl hg (h2 _ hno) hc h1' fun j hj => (hr j hj).shrink rfl h2
  | fp hg hno hc h1' hr _ => simp only [AV.out]; exact .fp hg (h2 _ hno) hc h1' fun j hj => (hr j hj).shrink rfl h2
  | ag hl h1' _ ih =>
    simp only [AV.out]
    exact .ag (by rw [outAll_length]; exact hl) (fun j hj => h1' j (by rw [outAll_length] at hj; exact hj)) fun j hj => by rw [outAll_getD]; exact ih j (by rw [outAll_length] at hj; exact hj)
  | tu hl _ ih =>
    simp only [AV.out]
    exact .tu (by rw [outAll_length]; exact hl) fun j hj => by rw [outAll_getD]; exact ih j (by rw [outAll_length] at hj; exact hj)
  | fn hl _ ih =>
    simp only [AV.out]
    exact .fn (by rw [outAll_length]; exact hl) fun j hj => by rw [outAll_getD]; exact ih j (by rw [outAll_length] at hj; exact hj)

/-- The place of a call that sees some of the blocks alone. -/
def Pl.cut (ι : Pl) (m : List Nat) : Pl := { at_ := placeOf ι m, hid := fun g => ι.hid g ∨ ∃ b, ι b = .here g ∧ b ∉ m }

omit [Gv] in
theorem cut_at {ι : Pl} {m : List Nat} {i b : Nat} (h : m[i]? = some b) : ι.cut m i = (ι b).unfresh := ren_at (ι := ι) h
omit [Gv] in
theorem cut_none {ι : Pl} {m : List Nat} {i : Nat} (h : m[i]? = none) : ι.cut m i = .fresh := ren_none (ι := ι) h
omit [Gv] in
theorem cut_here {ι : Pl} {m : List Nat} {i g : Nat} (h : ι.cut m i = .here g) : ∃ b, m[i]? = some b ∧ ι b = .here g := ren_here (ι := ι) h
omit [Gv] in
theorem cut_un {ι : Pl} {m : List Nat} {g : Nat} (h : ι.un g) : (ι.cut m).un g :=
  ⟨fun i hi => by obtain ⟨b, _, hb⟩ := cut_here hi; exact h.1 b hb, fun hh => by
    rcases hh with hh | ⟨b, hb, _⟩
    · exact h.2 hh
    · exact h.1 b hb⟩

theorem cut_rel {w : World} {ι : Pl} {hp : Heap} {m : List Nat} (hnd : m.Nodup) (h : HpRel P w ι hp) : HpRel P w (ι.cut m) (m.map fun b => (hp.getD b none).map (renBlk m)) := by
  refine ⟨fun i => ?_, ?_, ?_, ?_, fun g l hg => (h.gl g l hg).shrink rfl (fun g hg => cut_un hg)⟩
  · simp only [List.getElem?_map]
    cases hm : m[i]? with
    | none => exact cut_none hm
    | some b =>
      simp only [Option.map_some]
      have hb := h.blk b
      cases hs : hp[b]? with
      | none =>
        rw [hs] at hb
        have : hp.getD b none = none := by simp [List.getD, hs]
        rw [this]
        show ι.cut m i = .dead
        rw [cut_at hm, show ι b = .fresh from hb]; rfl
      | some x =>
        rw [hs] at hb
        have : hp.getD b none = x := by simp [List.getD, hs]
        rw [this]
        cases x with
        | none =>
          show ι.cut m i = .dead
          rw [cut_at hm, show ι b = .dead from hb]; rfl
        | some B =>
          show BlkOK P w (ι.cut m) i (renBlk m B)
          have hc : (renBlk m B).cells.length = B.cells.length := by unfold renBlk; split <;> simp [renAll_length]
          have hop : (renBlk m B).op = B.op := by unfold renBlk; split <;> rfl
          have hee : (renBlk m B).e = B.e := by unfold renBlk; split <;> rfl
          rcases hb with ⟨k1, k2⟩ | ⟨g, cur, fz, k1, k2, k3, k4, k5, k6⟩ | ⟨g, s, pos, k1, k2, k3, k4⟩
          · refine .inl ⟨by rw [cut_at hm, k1]; rfl, ?_⟩
            exact List.eq_nil_of_length_eq_zero (by rw [hc, k2]; rfl)
          rotate_left
          · refine .inr (.inr ⟨g, s, pos, by rw [cut_at hm, k1]; rfl, ?_, k3, by rw [hop]; exact k4⟩)
            unfold renBlk
            rw [if_pos k4]
            simp only [k2, AV.renAll, AV.ren]
          · refine .inr (.inl ⟨g, cur, fz, by rw [cut_at hm, k1]; rfl, by rw [hee]; exact k2, by rw [hee]; exact k3, by rw [hc]; exact k4, by rw [hc]; exact k5, fun j hj => ?_⟩)
            rw [hc] at hj
            rw [hop]
            have hr := k6 j hj
            unfold renBlk
            split
            · rename_i ho
              rw [ho] at hr ⊢
              simp only [renAll_getD]
              exact hr.renTo (fun i b hi => cut_at hi) (fun g hg => cut_un hg)
            · rename_i ho
              have ho' : B.op = false := by simpa using ho
              rw [ho'] at hr ⊢
              exact hr.shrink rfl (fun g hg => cut_un hg)
  · intro i j g hi hj
    obtain ⟨b, hb1, hb2⟩ := cut_here hi
    obtain ⟨b', hb1', hb2'⟩ := cut_here hj
    have := h.inj _ _ _ hb2 hb2'
    subst this
    exact (List.getElem?_inj (List.getElem?_eq_some_iff.1 hb1).1 hnd).1 (hb1.trans hb1'.symm)
  · intro i g hi hh
    obtain ⟨b, hb1, hb2⟩ := cut_here hi
    rcases hh with hh | ⟨b', hb', hn⟩
    · exact h.nohid b g hb2 hh
    · have := h.inj _ _ _ hb2 hb'
      subst this
      exact hn (List.mem_of_getElem? hb1)
  · intro g hh
    rcases hh with hh | ⟨b, hb, _⟩
    · exact h.hlt g hh
    · exact h.lt hb

/-- The caller's places behind the call. -/
def Pl.join (ι κ : Pl) (m : List Nat) (N : Nat) : Pl :=
  { at_ := fun b => if b < N then (match m.findIdx? (· == b) with | some i => κ i | .none => ι b) else κ (m.length + (b - N)), hid := ι.hid }

omit [Gv] in
theorem join_back {ι κ : Pl} {m : List Nat} {N : Nat} (hnd : m.Nodup) (hlt : ∀ b ∈ m, b < N) (i : Nat) : ι.join κ m N (backTo m N i) = κ i := by
  simp only [Pl.join]
  unfold backTo
  by_cases hi : i < m.length
  · simp only [hi, if_true]
    have e : m.getD i 0 = m[i] := by simp [List.getD, hi]
    rw [e, if_pos (hlt _ (List.getElem_mem hi))]
    have hf : m.findIdx? (· == m[i]) = some i := by
      rw [List.findIdx?_eq_some_iff_getElem]
      refine ⟨hi, by simp, fun j hj => ?_⟩
      simp only [beq_iff_eq, Bool.not_eq_true, beq_eq_false_iff_ne, ne_eq]
      intro he
      have := (List.getElem_inj hnd).1 he
      omega
    rw [hf]
  · simp only [hi, if_false]
    rw [if_neg (by omega)]
    congr 1
    omega

omit [Gv] in
theorem join_other {ι κ : Pl} {m : List Nat} {N b : Nat} (hb : b < N) (hm : b ∉ m) : ι.join κ m N b = ι b := by
  simp only [Pl.join]
  rw [if_pos hb]
  have : m.findIdx? (· == b) = none := by
    rw [List.findIdx?_eq_none_iff]
    intro x hx
    simp only [beq_eq_false_iff_ne, ne_eq]
    rintro rfl
    exact hm hx
  rw [this]

omit [Gv] in
theorem back_cases (m : List Nat) (N b : Nat) : (∃ i, b = backTo m N i) ∨ (b < N ∧ b ∉ m) := by
  by_cases hb : b < N
  · by_cases hm : b ∈ m
    · obtain ⟨i, hi, rfl⟩ := List.getElem_of_mem hm
      refine .inl ⟨i, ?_⟩
      unfold backTo
      rw [if_pos hi]
      simp [List.getD, hi]
    · exact .inr ⟨hb, hm⟩
  · refine .inl ⟨m.length + (b - N), ?_⟩
    unfold backTo
    rw [if_neg (by omega)]
    omega

theorem hCall_ok {f : FuncId} {spec : HSpec} (hs : HSpecOK P f spec) {args : List AV} {hp : Heap} {r : AV} {hp' : Heap} {p : List Prop} (h : hCall spec args hp = some (r, hp', p)) (hp0 : allP p)
    {w : World} {ι : Pl} {vs : Array Value} (hh : HpRel P w ι hp) (hl : args.length = vs.size) (hv : ∀ j, j < args.length → VR P w ι true (args.getD j .any) (vs.getD j undef)) :
    HasBody P f ∧ Calls P f vs w fun e w' => ∃ v ι', e = .returned v ∧ Ext w ι w' ι' ∧ HpRel P w' ι' hp' ∧ VR P w' ι' true r v := by
  unfold hCall at h
  simp only at h
  generalize reach hp 3 (dedup (AV.refsAll args) []) = m at h
  split at h
  · rename_i r0 hp0' q hspec
    split at h
    · rename_i hc
      obtain ⟨hc1, hlen, hc3⟩ := hc
      have hnd := nodupB_spec hc1
      have hlt : ∀ b ∈ m, b < hp.length := fun b hb => by simpa using List.all_eq_true.1 hc3 b hb
      simp only [Option.some.injEq, Prod.mk.injEq] at h
      obtain ⟨rfl, rfl, rfl⟩ := h
      obtain ⟨hbody, hcalls⟩ := hs _ _ _ _ _ hspec hp0 w (ι.cut m) vs (cut_rel hnd hh) (by rw [renAll_length]; exact hl) (fun j hj => by
        rw [renAll_length] at hj
        rw [renAll_getD]
        exact (hv j hj).renTo (fun i b hi => cut_at hi) (fun g hg => cut_un hg))
      refine ⟨hbody, hcalls.mono fun e w' ⟨v, κ', he, hext, hhp, hr⟩ => ?_⟩
      have hback : ∀ i, ι.join κ' m hp.length (backTo m hp.length i) = κ' i := join_back hnd hlt
      have hhidk : ∀ b g, ι b = .here g → b ∉ m → κ'.hid g := fun b g hb hn => by rw [hext.hid]; exact .inr ⟨b, hb, hn⟩
      have hun : ∀ g, κ'.un g → (ι.join κ' m hp.length).un g := by
        intro g hg
        refine ⟨fun b hb => ?_, fun hx => hg.2 (by rw [hext.hid]; exact .inl hx)⟩
        rcases back_cases m hp.length b with ⟨i, rfl⟩ | ⟨h1, h2⟩
        · rw [hback] at hb; exact hg.1 i hb
        · rw [join_other h1 h2] at hb; exact hg.2 (hhidk b g hb h2)
      have fresh : ∀ b, hp.length ≤ b → ι b = .fresh := fun b hb => by
        have := hh.blk b
        rw [List.getElem?_eq_none hb] at this
        exact this
      have E : Ext w ι w' (ι.join κ' m hp.length) := by
        refine ⟨hext.os, hext.tape, hext.output, hext.size, rfl, fun g hg hx => hext.hkeep g hg (.inl hx), fun g hg hx => ?_, fun b g hb => ?_, fun b hb => ?_⟩
        · obtain ⟨e1, e2⟩ := hext.blk g hg (cut_un hx)
          exact ⟨e1, hun g e2⟩
        · have hbl : b < hp.length := by
            rcases Nat.lt_or_ge b hp.length with h | h
            · exact h
            · rw [fresh b h] at hb; cases hb
          by_cases hm : b ∈ m
          · obtain ⟨i, hi, rfl⟩ := List.getElem_of_mem hm
            have hi' : m[i]? = some m[i] := List.getElem?_eq_getElem hi
            have hF : backTo m hp.length i = m[i] := by unfold backTo; rw [if_pos hi]; simp [List.getD, hi]
            have hk := hback i
            rw [hF] at hk
            rw [hk]
            exact hext.own i g (by rw [cut_at hi', hb]; rfl)
          · refine .inr ⟨by rw [join_other hbl hm]; exact hb, fun cur e fz hcur => ⟨cur, fz, ?_, rfl⟩⟩
            rw [hext.hkeep g (hh.lt hb) (.inr ⟨b, hb, hm⟩)]
            exact hcur
        · have hbl : b < hp.length := by
            rcases Nat.lt_or_ge b hp.length with h | h
            · exact h
            · rw [fresh b h] at hb; cases hb
          by_cases hm : b ∈ m
          · obtain ⟨i, hi, rfl⟩ := List.getElem_of_mem hm
            have hi' : m[i]? = some m[i] := List.getElem?_eq_getElem hi
            have hF : backTo m hp.length i = m[i] := by unfold backTo; rw [if_pos hi]; simp [List.getD, hi]
            have hk := hback i
            rw [hF] at hk
            rw [hk]
            exact hext.dead i (by rw [cut_at hi', hb]; rfl)
          · rw [join_other hbl hm]; exact hb
      refine ⟨v, _, he, E, ?_, hr.outTo hback hun⟩
      have getB : ∀ i, (backHeap m hp hp0')[backTo m hp.length i]? = (hp0'[i]?).map (Option.map (outBlk (backTo m hp.length))) := by
        intro i
        unfold backHeap
        rw [List.getElem?_map]
        by_cases hi : i < m.length
        · have hF : backTo m hp.length i = m[i] := by unfold backTo; rw [if_pos hi]; simp [List.getD, hi]
          have hml := hlt _ (List.getElem_mem hi)
          have hf : m.findIdx? (· == m[i]) = some i := by
            rw [List.findIdx?_eq_some_iff_getElem]
            refine ⟨hi, by simp, fun j hj => ?_⟩
            simp only [beq_iff_eq, Bool.not_eq_true, beq_eq_false_iff_ne, ne_eq]
            intro he
            have := (List.getElem_inj hnd).1 he
            omega
          have hi2 : i < hp0'.length := by omega
          generalize backTo m hp.length = F at hF ⊢
          rw [hF, List.getElem?_range (by omega)]
          simp only [Option.map_some, hml, if_true, hf]
          simp [List.getD, hi2]
        · have hF : backTo m hp.length i = hp.length + (i - m.length) := by unfold backTo; rw [if_neg hi]
          generalize backTo m hp.length = F at hF ⊢
          rw [hF]
          by_cases hi2 : i < hp0'.length
          · rw [List.getElem?_range (by omega)]
            simp only [Option.map_some]
            rw [if_neg (by omega)]
            have : m.length + (hp.length + (i - m.length) - hp.length) = i := by omega
            rw [this]
            simp [List.getD, hi2]
          · rw [List.getElem?_eq_none (by simp; omega), List.getElem?_eq_none (by omega)]
            rfl
      have getO : ∀ b, b < hp.length → b ∉ m → (backHeap m hp hp0')[b]? = hp[b]? := by
        intro b hb hm
        unfold backHeap
        rw [List.getElem?_map, List.getElem?_range (by omega)]
        have : m.findIdx? (· == b) = none := by
          rw [List.findIdx?_eq_none_iff]
          intro x hx
          simp only [beq_eq_false_iff_ne, ne_eq]
          rintro rfl
          exact hm hx
        simp only [Option.map_some, hb, if_true, this]
        simp [List.getD, hb]
      refine ⟨fun b => ?_, fun b b' g hb hb' => ?_, fun b g hb hx => ?_, fun g hg => Nat.lt_of_lt_of_le (hh.hlt g hg) hext.size, fun g l hg => (hh.gl g l hg).mono E⟩
      · rcases back_cases m hp.length b with ⟨i, rfl⟩ | ⟨h1, h2⟩
        · rw [getB]
          have hbi := hhp.blk i
          cases hx : hp0'[i]? with
          | none => rw [hx] at hbi; exact (hback i).trans hbi
          | some x =>
            rw [hx] at hbi
            cases x with
            | none => exact (hback i).trans hbi
            | some B =>
              show BlkOK P w' (ι.join κ' m hp.length) (backTo m hp.length i) (outBlk (backTo m hp.length) B)
              have hc : (outBlk (backTo m hp.length) B).cells.length = B.cells.length := by unfold outBlk; split <;> simp [outAll_length]
              have hop : (outBlk (backTo m hp.length) B).op = B.op := by unfold outBlk; split <;> rfl
              have hee : (outBlk (backTo m hp.length) B).e = B.e := by unfold outBlk; split <;> rfl
              rcases hbi with ⟨k1, k2⟩ | ⟨g, cur, fz, k1, k2, k3, k4, k5, k6⟩ | ⟨g, s, pos, k1, k2, k3, k4⟩
              · refine .inl ⟨(hback i).trans k1, ?_⟩
                exact List.eq_nil_of_length_eq_zero (by rw [hc, k2]; rfl)
              rotate_left
              · refine .inr (.inr ⟨g, s, pos, (hback i).trans k1, ?_, k3, by rw [hop]; exact k4⟩)
                unfold outBlk
                rw [if_pos k4]
                simp only [k2, AV.outAll, AV.out]
              · refine .inr (.inl ⟨g, cur, fz, (hback i).trans k1, by rw [hee]; exact k2, by rw [hee]; exact k3, by rw [hc]; exact k4, by rw [hc]; exact k5, fun j hj => ?_⟩)
                rw [hc] at hj
                rw [hop]
                have hr := k6 j hj
                unfold outBlk
                split
                · rename_i ho
                  rw [ho] at hr ⊢
                  simp only [outAll_getD]
                  exact hr.outTo hback hun
                · rename_i ho
                  have ho' : B.op = false := by simpa using ho
                  rw [ho'] at hr ⊢
                  exact hr.shrink rfl hun
        · rw [getO b h1 h2]
          exact (hh.blk b).ext E (join_other h1 h2) (fun g hg => hext.hkeep g (hh.lt hg) (.inr ⟨b, hg, h2⟩))
      · rcases back_cases m hp.length b with ⟨i, rfl⟩ | ⟨h1, h2⟩ <;> rcases back_cases m hp.length b' with ⟨i', rfl⟩ | ⟨h1', h2'⟩
        · rw [hback] at hb hb'
          rw [hhp.inj _ _ _ hb hb']
        · rw [hback] at hb; rw [join_other h1' h2'] at hb'
          exact absurd (hhidk b' g hb' h2') (hhp.nohid _ _ hb)
        · rw [hback] at hb'; rw [join_other h1 h2] at hb
          exact absurd (hhidk b g hb h2) (hhp.nohid _ _ hb')
        · rw [join_other h1 h2] at hb; rw [join_other h1' h2'] at hb'
          exact hh.inj _ _ _ hb hb'
      · have hx' : ι.hid g := hx
        rcases back_cases m hp.length b with ⟨i, rfl⟩ | ⟨h1, h2⟩
        · rw [hback] at hb
          exact hhp.nohid _ _ hb (by rw [hext.hid]; exact .inl hx')
        · rw [join_other h1 h2] at hb
          exact hh.nohid _ _ hb hx'
    · simp at h
  · simp at h

/-- Calls, by contracts of either kind and by bodies. -/
theorem aCallH_ok (hm : P.follows .mixedOrders = true) {sg : Specs} {hsg : HSpecs} (hs1 : ∀ f spec, sg f = some spec → SpecOK P f spec) (hs2 : ∀ f spec, hsg f = some spec → HSpecOK P f spec) (fuel : Nat) : ∀ n, CallOK P (aCallH P sg hsg fuel n)
  | 0 => fun f args hp r hp' p h => by simp [aCallH] at h
  | n + 1 => by
    intro f args hp r hp' p h hp0 w ι vs hh hl hv
    simp only [aCallH] at h
    split at h
    · rename_i spec hspec
      exact hCall_ok (hs2 f spec hspec) h hp0 hh hl hv
    · split at h
      · rename_i spec hs
        split at h
        · rename_i l hf
          split at h
          · rename_i x hr
            obtain ⟨r0, q0⟩ := x
            exact bySpec_ok (hs1 f spec hs) hh hl hv hf hr h hp0
          · simp at h
        · simp at h
      · exact aBody_ok rlExt hm (aCallH_ok hm hs1 hs2 fuel n) (lpNone _ _) h hp0 hh hl hv

/-- A contract over blocks, out of a body that has no loop of a family. -/
theorem hspec_of (hm : P.follows .mixedOrders = true) {cl : CallT} (hcl : CallOK P cl) {f : FuncId} {spec : HSpec}
    (h : ∀ args hp r hp' q, spec args hp = some (r, hp', q) → allP q → ∃ hs fuel p, aBody P cl hs (fun _ => none) fuel f args hp = some (r, hp', p) ∧ allP p) : HSpecOK P f spec := by
  intro args hp r hp' q hspec hq w ι vs hh hl hv
  obtain ⟨hs, fuel, p, hb, hp0⟩ := h args hp r hp' q hspec hq
  exact aBody_ok rlExt hm hcl (lpNone _ _) hb hp0 hh hl hv

/-- Blocks given up. -/
def killAll (ks : List Nat) (hp : Heap) : Heap := ks.foldl (fun h b => List.set h b none) hp

def outKill (ks : List Nat) : Option (AV × Heap × List Prop) → Option (AV × Heap × List Prop)
  | some (r, hp, p) => some (r, killAll ks hp, p)
  | none => none

theorem killAll_ok {w : World} : ∀ (ks : List Nat) {ι : Pl} {hp : Heap}, HpRel P w ι hp → ∃ ι', Ext w ι w ι' ∧ HpRel P w ι' (killAll ks hp)
  | [], ι, hp, h => ⟨ι, Ext.refl _ _, h⟩
  | b :: r, ι, hp, h => by
    by_cases hb : b < hp.length
    · obtain ⟨e, h1⟩ := h.kill hb
      obtain ⟨ι', e2, h2⟩ := killAll_ok r h1
      exact ⟨ι', e.trans e2, h2⟩
    · have : List.set hp b none = hp := List.set_eq_of_length_le (by omega)
      show ∃ ι', Ext w ι w ι' ∧ HpRel P w ι' (killAll r (List.set hp b none))
      rw [this]
      exact killAll_ok r h

/-- A contract over blocks, out of a body; some blocks are given up at its end. -/
theorem hspec_kill (hm : P.follows .mixedOrders = true) {cl : CallT} (hcl : CallOK P cl) {f : FuncId} {spec : HSpec}
    (h : ∀ args hp r hp' q, spec args hp = some (r, hp', q) → allP q → ∃ ks hs fuel p, outKill ks (aBody P cl hs (lpBy []) fuel f args hp) = some (r, hp', p) ∧ allP p) : HSpecOK P f spec := by
  intro args hp r hp' q hspec hq w ι vs hh hl hv
  obtain ⟨ks, hs, fuel, p, hb, hp0⟩ := h args hp r hp' q hspec hq
  cases hb1 : aBody P cl hs (lpBy []) fuel f args hp with
  | none => rw [hb1] at hb; simp [outKill] at hb
  | some x =>
    obtain ⟨r1, hp1, p1⟩ := x
    rw [hb1] at hb
    simp only [outKill, Option.some.injEq, Prod.mk.injEq] at hb
    obtain ⟨rfl, rfl, rfl⟩ := hb
    obtain ⟨hbody, hcalls⟩ := aBody_ok rlExt hm hcl (lpNone _ _) (lp := lpBy []) hb1 hp0 hh hl hv
    refine ⟨hbody, hcalls.mono fun e w' ⟨v, ι', he, hext, hhp, hr⟩ => ?_⟩
    obtain ⟨ι2, e2, h2⟩ := killAll_ok ks hhp
    exact ⟨v, ι2, he, hext.trans e2, h2, hr.mono e2⟩

def hsgBy : List (FuncId × HSpec) → HSpecs
  | [], _ => none
  | (k, s) :: r, f => if f = k then some s else hsgBy r f

theorem hsgBy_nil : ∀ f spec, hsgBy [] f = some spec → HSpecOK P f spec := fun _ _ h => by cases h

theorem hsgBy_cons {k : FuncId} {s : HSpec} {r : List (FuncId × HSpec)} (h : HSpecOK P k s) (hr : ∀ f spec, hsgBy r f = some spec → HSpecOK P f spec) : ∀ f spec, hsgBy ((k, s) :: r) f = some spec → HSpecOK P f spec := by
  intro f spec hf
  have hf : (if f = k then some s else hsgBy r f) = some spec := hf
  split at hf
  · rename_i he
    cases hf; rw [he]; exact h
  · exact hr f spec hf

end Go.Proofs.Ytljgmgbjfjhjmaa
