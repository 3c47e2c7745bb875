/- slices.Insert of one number: what is shown by hand. -/
import Derived.Test.YtljgmgbjfjhjmaaInsC
namespace Go.Proofs.Ytljgmgbjfjhjmaa
open Go.RowKit
set_option linter.unusedVariables false
set_option linter.unusedSimpArgs false

def noOp : Oper := { dst := none, op := .move (.const undef), type := 0, pos := "", after := #[], guard := none }
def opN (c : Code) (k : Nat) : Oper := (Code.rops c).toList.getD k noOp

theorem list_split (l : List Oper) (k : Nat) (h : k < l.length) : l = l.take k ++ (l.getD k noOp :: l.drop (k + 1)) := by
  have e : l.getD k noOp = l[k] := by simp [List.getD, h]
  rw [e, ← List.drop_eq_getElem_cons h, List.take_append_drop]

/-- A region with an operation in its midst that is shown by hand. -/
theorem wp_mid {P : Program} {c : Code} {id k : Nat} (hc : c = .region id (Code.rops c) false) (hk : k < (Code.rops c).toList.length) (hg : (opN c k).guard = none) {cl : CallT} (hcl : CallOK P cl) {hs1 hs2 : Hints} {keep1 keep2 : List Nat} {S S1 Sm S2 : St} {p1 p2 : List Prop}
    (h1 : opsKeep keep1 (aOps P cl hs1 (Code.rops c) ((Code.rops c).toList.take k) S []) = some (S1, p1)) (hp1 : allP p1)
    (h2 : opsKeep keep2 (aOps P cl hs2 (Code.rops c) ((Code.rops c).toList.drop (k + 1)) Sm []) = some (S2, p2)) (hp2 : allP p2)
    {Q : Exit → Act → World → Prop} {a : Act} {w : World} {ι : Pl} (hS : StRel P w ι S a)
    (man : ∀ a' w' ι', StRel P w' ι' S1 a' → Ext w ι w' ι' → ∃ v w2 ι2, (execOp a'.eval (opN c k)).run P w' = .ok (.value v) w2 ∧ Ext w' ι' w2 ι2 ∧ StRel P w2 ι2 Sm (a'.put (opN c k).dst v))
    (next : ∀ a' w' ι', StRel P w' ι' S2 a' → Ext w ι w' ι' → Q .normal a' w') : c.wp P Q a w := by
  rw [hc]
  refine wp_region_list ?_
  rw [list_split _ k hk]
  refine aOps_keep hcl h1 hp1 hS fun a1 w1 ι1 hS1 e1 => ?_
  obtain ⟨v, w2, ι2, hrun, e2, hS2⟩ := man a1 w1 ι1 hS1 e1
  refine wpList_val hg hrun ?_
  have := aOps_keep (l2 := []) (Q := Q) hcl h2 hp2 hS2 fun a3 w3 ι3 hS3 e3 => next a3 w3 ι3 hS3 ((e1.trans e2).trans e3)
  rwa [List.append_nil] at this

/-- A block told otherwise. -/
theorem HpRel.retell {P : Program} {w : World} {ι : Pl} {hp : Heap} (h : HpRel P w ι hp) {b : Nat} {B B' : Blk} (hb : hp[b]? = some (some B)) (hB : BlkOK P w ι b B') : HpRel P w ι (List.set hp b (some B')) := by
  have hbl : b < hp.length := (List.getElem?_eq_some_iff.1 hb).1
  refine ⟨fun k => ?_, h.inj, h.nohid, h.hlt, h.gl⟩
  by_cases hk : k = b
  · subst hk
    rw [List.getElem?_set_self hbl]
    exact hB
  · rw [List.getElem?_set_ne (Ne.symm hk)]
    exact h.blk k

/-- How many places the first block has. -/
def Room (w : World) (ι : Pl) (N : Nat) : Prop := ∃ g cur e fz, ι 0 = .here g ∧ w.heap[g]? = some (.cells cur e fz) ∧ cur.size = N

theorem Room.ext {P : Program} {w w' : World} {ι ι' : Pl} {hp : Heap} {B : Blk} {N : Nat} (h : Room w ι N) (e : ExtK 2 w ι w' ι') (hh : HpRel P w' ι' hp) (hb : hp[0]? = some (some B)) : Room w' ι' N := by
  obtain ⟨g, cur, e0, fz, h1, h2, h3⟩ := h
  rcases e.own 0 g (by decide) h1 with hd | ⟨k1, k2⟩
  · exact absurd hd (hh.notDead hb)
  · obtain ⟨cur', fz', k3, k4⟩ := k2 cur e0 fz h2
    exact ⟨g, cur', e0, fz', k1, k3, k4.trans h3⟩

theorem cells3 : Try.prog.cellsOf 3 = 1 := by kernel_rfl
theorem und22 : Try.prog.underlying 22 = some (.slice 3) := by kernel_rfl
theorem noU8 : isU8 Try.prog 3 = false := by kernel_rfl

/-- A piece of the first block from its beginning. -/
theorem room_at {w : World} {ι : Pl} {hp : Heap} {C : List AV} {N m : Nat} {v : Value} (hh : HpRel Try.prog w ι hp) (hb : hp[0]? = some (some ⟨3, false, C⟩)) (hr : Room w ι N) (hv : VR Try.prog w ι true (.sl 0 0 m) v) (hm : 0 < m) :
    ∃ g cur fz, ι 0 = .here g ∧ w.heap[g]? = some (.cells cur 3 fz) ∧ cur.size = N ∧ m ≤ N ∧ N ≤ maxLen ∧ v = .slice (some ⟨g, 0, none⟩) m N := by
  obtain ⟨g, cap, cur, fz, hg, hcur, hn2, hs, hm2, rfl⟩ := hv.slPlace (hh.live hb) hm
  obtain ⟨g', cur', e', fz', h1, h2, h3⟩ := hr
  rw [hg] at h1; cases h1
  rw [hcur] at h2; cases h2
  simp only [cells3] at hs ⊢
  have : cap = N := by omega
  subst this
  exact ⟨g, cur, fz, hg, hcur, h3, hn2, hm2, by simp⟩

/-- 'cap'. -/
theorem run_cap {P : Program} {w : World} {t ty e : TypeId} {a : Option Addr} {n c : Nat} (ht : P.underlying t = some (.slice e)) : (Builtin.cap_ #[t] ty #[.slice a n c]).run P w = .ok (goInt c) w := by
  simp [Builtin.cap_, run_underlying ht]

/-- A slice up to its capacity. -/
theorem run_reslice {P : Program} {w : World} {t e : TypeId} {i : TypeInfo} {g n cap : Nat} {h : Nat} (ht : P.underlying t = some (.slice e)) (hi : P.info? e = some i) (hc : h ≤ cap) (h0 : 0 < cap) :
    (Instr.sliceAt t (.slice (some ⟨g, 0, none⟩) n cap) none (some (.int .i64 (h : Nat))) none).run P w = .ok (.slice (some ⟨g, 0, none⟩) h cap) w := by
  have hh : (h : Int) ≤ (cap : Int) := by omega
  have hz : ¬ (cap = 0) := by omega
  unfold Instr.sliceAt
  simp only [Sem.run_bind, run_underlying ht, Result.andThen_ok]
  unfold Instr.slice
  simp only [Sem.run_bind, run_underlying ht, Result.andThen_ok]
  simp [Instr.sliceBounds, Instr.sliceBound, asIntOf, hh, sizeOf, typeInfo, hi, hz]
  rw [if_pos hc]
  have e : (⟨g, 0, none⟩ : Addr).add 0 = ⟨g, 0, none⟩ := by unfold Addr.add; split <;> simp_all
  rw [e]

/-! The regions. -/
noncomputable def insR8 : Code := Code.lft (Code.lft insC6)
noncomputable def insR9 : Code := Code.lft insB9
noncomputable def insR3 : Code := Code.lft insR13
noncomputable def insR4 : Code := Code.lft insX14
def iT8 (n i : Nat) (l : List (Nat × AV)) (hp : Heap) : St := iF n i ([(7, .c (.int .i64 1)), (8, .c (.int .i64 n))] ++ l) hp

theorem r8_all (C : List AV) (x : AV) (n i N : Nat) (g : Bool) (hn : n ≤ 255) (hi : i < n) (hN : N ≤ maxLen) (hg : decide (((n + 1 : Nat) : Int) > ((N : Nat) : Int)) = g) {Q : Exit → Act → World → Prop} {a : Act} {w : World} {ι : Pl} (hS : StRel Try.prog w ι (iT8 n i [] (iH C x)) a) (hr : Room w ι N)
    (next : ∀ a' w' ι', StRel Try.prog w' ι' (iT8 n i [(31, .c (.bool g))] (iH C x)) a' → Ext w ι w' ι' → Q .normal a' w') : insR8.wp Try.prog Q a w := by
  refine wp_mid (id := 8) (k := 4) (by kernel_rfl) (by
      have : (Code.rops insR8).toList.length = 6 := by kernel_rfl
      omega) (by kernel_rfl) cl0_ok (hs1 := ⟨true, [(28, ⟨.c (.int .i64 (n + 1 : Nat)), none⟩)]⟩) (hs2 := ⟨true, [(31, ⟨.c (.bool g), none⟩)]⟩) (keep1 := [0, 1, 2, 7, 8, 28, 29]) (keep2 := [0, 1, 2, 7, 8, 31])
    (S1 := iT8 n i [(28, .c (.int .i64 (n + 1 : Nat))), (29, .sl 0 0 n)] (iH C x)) (Sm := iT8 n i [(28, .c (.int .i64 (n + 1 : Nat))), (29, .sl 0 0 n), (30, .c (.int .i64 N))] (iH C x)) (S2 := iT8 n i [(31, .c (.bool g))] (iH C x))
    (p1 := [(IntKind.i64.min : Int) ≤ (n : Int) + 1, (n : Int) + 1 ≤ IntKind.i64.max, (n : Int) + 1 = ((n + 1 : Nat) : Int)]) (p2 := [decide (((n + 1 : Nat) : Int) > ((N : Nat) : Int)) = g]) (by kernel_rfl) ?_ (by kernel_rfl) ⟨hg, trivial⟩ hS ?_ next
  · simp only [std]
    omega
  · intro a' w' ι' h1 e1
    have hb : (iH C x)[0]? = some (some ⟨3, false, C⟩) := rfl
    have hr' := hr.ext (e1.toK 2) h1.hp hb
    have hv := h1.fr.rel 29
    have e29 : (iT8 n i [(28, .c (.int .i64 (n + 1 : Nat))), (29, .sl 0 0 n)] (iH C x)).fr.getD 29 .any = .sl 0 0 n := by kernel_rfl
    rw [e29] at hv
    obtain ⟨g0, cur, fz, k1, k2, k3, k4, k5, k6⟩ := room_at h1.hp hb hr' hv (by omega)
    have ho : (opN insR8 4).op = .call { callee := .builtin .cap, args := #[.tmp 29], argTypes := #[22] } := by kernel_rfl
    have hd : (opN insR8 4).dst = some 30 := by kernel_rfl
    have hev : a'.eval (.tmp 29) = .slice (some ⟨g0, 0, none⟩) n N := k6
    refine ⟨.int .i64 N, w', ι', ?_, Ext.refl _ _, ?_⟩
    · have hc := run_cap (P := Try.prog) (w := w') (ty := (opN insR8 4).type) (a := some ⟨g0, 0, none⟩) (n := n) (c := N) und22
      simp [execOp, ho, resolve, invoke, builtin, hev, hc, goInt]
    · rw [hd]
      exact (h1.put (x := .c (.int .i64 N)) .c (some 30)).keep [0, 1, 2, 7, 8, 28, 29, 30]

/-- The new row, where there is no room: what stood ahead, then places. -/
theorem r9_all (C : List AV) (x : AV) (n i N : Nat) (hn : n ≤ 255) (hi : i < n) (hN : N < n + 1) (hC : C.length = n) {Q : Exit → Act → World → Prop} {a : Act} {w : World} {ι : Pl} (hS : StRel Try.prog w ι (iT8 n i [] (iH C x)) a) (hr : Room w ι N)
    (next : ∀ a' w' ι', StRel Try.prog w' ι' (iT8 n i [(9, .sl 2 0 (n + 1))] (iH C x ++ [iB (C.take i ++ List.replicate (n + 1 - i) .any)])) a' → Ext w ι w' ι' → Q .normal a' w') : insR9.wp Try.prog Q a w := by
  refine wp_mid (id := 9) (k := 8) (by kernel_rfl) (by
      have : (Code.rops insR9).toList.length = 10 := by kernel_rfl
      omega) (by kernel_rfl) cl0_ok (hs1 := ⟨true, [(37, ⟨.c (.int .i64 (n + 1 : Nat)), none⟩), (39, ⟨.c (.int .i64 (n + 1 - i : Nat)), none⟩)]⟩) (hs2 := ⟨true, []⟩) (keep1 := [0, 1, 2, 7, 8, 34, 39]) (keep2 := [0, 1, 2, 7, 8, 9])
    (S1 := iT8 n i [(34, .sl 0 0 i), (39, .c (.int .i64 (n + 1 - i : Nat)))] (iH C x)) (Sm := iT8 n i [(40, .sl 2 0 (n + 1))] (iH C x ++ [iB (C.take i ++ List.replicate (n + 1 - i) .any)])) (S2 := iT8 n i [(9, .sl 2 0 (n + 1))] (iH C x ++ [iB (C.take i ++ List.replicate (n + 1 - i) .any)]))
    (p1 := [(0 : Int) ≤ 0, (0 : Int) ≤ (i : Int), (i : Int) ≤ (n : Int), (IntKind.i64.min : Int) ≤ (n : Int) + 1, (n : Int) + 1 ≤ IntKind.i64.max, (n : Int) + 1 = ((n + 1 : Nat) : Int), (IntKind.i64.min : Int) ≤ ((n + 1 : Nat) : Int) - (i : Int), ((n + 1 : Nat) : Int) - (i : Int) ≤ IntKind.i64.max, ((n + 1 : Nat) : Int) - (i : Int) = ((n + 1 - i : Nat) : Int)]) (p2 := []) (by kernel_rfl) ?_ (by kernel_rfl) trivial hS ?_ next
  · simp only [std]
    omega
  · intro a' w' ι' h1 e1
    have hb : (iH C x)[0]? = some (some ⟨3, false, C⟩) := rfl
    have hr' := hr.ext (e1.toK 2) h1.hp hb
    have hv := h1.fr.rel 34
    have e34 : (iT8 n i [(34, .sl 0 0 i), (39, .c (.int .i64 (n + 1 - i : Nat)))] (iH C x)).fr.getD 34 .any = .sl 0 0 i := by kernel_rfl
    rw [e34] at hv
    have h39 : a'.eval (.tmp 39) = .int .i64 (n + 1 - i : Nat) := (h1.ev (.tmp 39)).cInv
    have ho : (opN insR9 8).op = .call { callee := .builtin .append, args := #[.tmp 34, .tmp 39], argTypes := #[22, 3] } := by kernel_rfl
    have hd : (opN insR9 8).dst = some 40 := by kernel_rfl
    have hu : Try.prog.underlying 3 = some (.int .i64) := by kernel_rfl
    obtain ⟨ti, z, hti, hz, hzs, hsz, hby, hz1⟩ := zeroFits_spec (P := Try.prog) (e := 3) (by kernel_rfl)
    rw [cells3] at hsz hzs
    have hby8 : ti.bytes = 8 := by rw [hby]; kernel_rfl
    -- what stood ahead
    obtain ⟨base, cap, olds, hvv, hcap, hfo, hol, hone, hrel⟩ : ∃ (base : Option Addr) (cap : Nat) (olds : List Value), a'.eval (.tmp 34) = .slice base i cap ∧ cap < n + 1 ∧ (Builtin.firstCells ti.size i (.slice base i cap)).run Try.prog w'.drew = .ok olds.toArray w'.drew ∧ olds.length = i ∧
        (∀ j, j < olds.length → (olds.getD j undef).oneCell' = true) ∧ ∀ j, j < olds.length → VR Try.prog w' ι' false ((C.take i).getD j .any) (olds.getD j undef) := by
      rcases Nat.eq_zero_or_pos i with h0 | h0
      · subst h0
        have hv0 := hv
        obtain ⟨bse, cp, hv0, hc0⟩ : ∃ bse cp, a'.tmps.getD 34 undef = .slice bse 0 cp ∧ cp < n + 1 := by
          have hv0 := hv
          generalize a'.tmps.getD 34 undef = y at hv0
          cases hv0 with
          | slDead hd0 => exact absurd hd0 (h1.hp.notDead hb)
          | slZero => exact ⟨_, 0, rfl, by omega⟩
          | slAt hg hcur hn2 hs hm2 =>
            obtain ⟨g', cur', e', fz', q1, q2, q3⟩ := hr'
            rw [hg] at q1; cases q1
            rw [hcur] at q2; cases q2
            obtain ⟨cur', fz', hc', _⟩ := (h1.hp.live hb).cells hg hcur
            rw [hcur] at hc'; cases hc'
            simp only [cells3] at hs
            exact ⟨_, _, rfl, by omega⟩
        refine ⟨bse, cp, [], hv0, hc0, ?_, rfl, by simp, by simp⟩
        cases bse <;> simp [Builtin.firstCells, loadCells, loadCellsFrom]
      · obtain ⟨g0, cur, fz, k1, k2, k3, k4, k5, k6⟩ := room_at h1.hp hb hr' hv h0
        obtain ⟨cur', fz', k2', _, q1, q2, q3, q4⟩ := (h1.hp.live hb).cells k1 k2
        rw [k2] at k2'; cases k2'
        have hol : ∀ j, j < i → ((List.range i).map fun j => cur.getD j undef).getD j undef = cur.getD j undef := fun j hj => map_range_getD _ _ _ hj
        have q1 : C.length ≤ cur.size := q1
        refine ⟨some ⟨g0, 0, none⟩, N, (List.range i).map fun j => cur.getD j undef, k6, hN, ?_, by simp, fun j hj => ?_, fun j hj => ?_⟩
        · simp only [Builtin.firstCells, hsz, Nat.mul_one]
          exact cellsAt_list (w := w') (W := w'.drew) (n := i) (g := g0) (off := 0) (us := fun j => cur.getD j undef) (fun j hj => by rw [Nat.zero_add]; exact q4 j (by omega)) rfl _ rfl
        · have hj : j < i := by simpa using hj
          rw [hol j hj]; exact q2 j (by show j < C.length; omega)
        · have hj : j < i := by simpa using hj
          rw [hol j hj, take_getD _ _ _ hj]; exact q3 j (by show j < C.length; omega)
    have hrun := run_app_zeros (P := Try.prog) (w := w') (ty := (opN insR9 8).type) (t := 22) (u := 3) (k := n + 1 - i) und22 hu hti hz hfo hsz (by omega) (by omega) hby8 (by omega)
    rw [show i + (n + 1 - i) = n + 1 by omega] at hrun
    have hge := grownCap_ge w' (n + 1) cap 3
    generalize hG : grownCap w' (n + 1) cap 3 = G at hrun hge
    have hGm : G ≤ maxLen := by rw [← hG]; exact grownCap_le_maxLen w' (n + 1) cap 3 (by simp only [maxLen]; omega)
    have hz2 : ∀ k, (Builtin.zeroCells z.cells k).size = k := fun k => by rw [size_zeroCells, hzs, Nat.mul_one]
    have hrs : (olds.toArray ++ Builtin.zeroCells z.cells (n + 1 - i) ++ Builtin.zeroCells z.cells (G - (n + 1))).size = G := by
      rw [Array.size_append, Array.size_append, hz2, hz2, List.size_toArray, hol]; omega
    have hget : ∀ j, j < G → ((olds.toArray ++ Builtin.zeroCells z.cells (n + 1 - i) ++ Builtin.zeroCells z.cells (G - (n + 1))).getD j undef) = if j < i then olds.getD j undef else if j < i + (n + 1 - i) then (Builtin.zeroCells z.cells (n + 1 - i)).getD (j - i) undef else (Builtin.zeroCells z.cells (G - (n + 1))).getD (j - i - (n + 1 - i)) undef := by
      intro j hj
      have l1 : (Builtin.zeroCells z.cells (n + 1 - i)).toList.length = n + 1 - i := by simpa using hz2 (n + 1 - i)
      have h := app_getD olds (Builtin.zeroCells z.cells (n + 1 - i)).toList (Builtin.zeroCells z.cells (G - (n + 1))).toList j
      rw [Array.toArray_toList (xs := Builtin.zeroCells z.cells (n + 1 - i)), Array.toArray_toList (xs := Builtin.zeroCells z.cells (G - (n + 1))), hol, l1, toList_getD (Builtin.zeroCells z.cells (n + 1 - i)), toList_getD (Builtin.zeroCells z.cells (G - (n + 1)))] at h
      exact h
    have hall : ∀ j, j < G → ((olds.toArray ++ Builtin.zeroCells z.cells (n + 1 - i) ++ Builtin.zeroCells z.cells (G - (n + 1))).getD j undef).oneCell' = true := by
      intro j hj
      rw [hget j hj]
      by_cases c1 : j < i
      · rw [if_pos c1]; exact hone j (by omega)
      · rw [if_neg c1]
        by_cases c2 : j < i + (n + 1 - i)
        · rw [if_pos c2]; exact zero_one hz1 _ _ (by rw [hz2]; omega)
        · rw [if_neg c2]; exact zero_one hz1 _ _ (by rw [hz2]; omega)
    have hCl : (C.take i ++ List.replicate (n + 1 - i) AV.any).length = n + 1 := by rw [List.length_append, List.length_take, List.length_replicate]; omega
    obtain ⟨e2, h2⟩ := h1.hp.push (B := ⟨3, false, C.take i ++ List.replicate (n + 1 - i) .any⟩) (pushed_drew w' _) (rowOK0 fun _ j hj => hall j (by rw [hrs] at hj; exact hj)) (by rw [hrs]; simp only [hCl]; omega) (fun j hj => hall j (by simp only [hCl] at hj; omega)) (fun j hj => by
      simp only [hCl] at hj
      show VR Try.prog w' ι' false ((C.take i ++ List.replicate (n + 1 - i) AV.any).getD j .any) _
      by_cases c1 : j < i
      · rw [avapp_getD, if_pos (by rw [List.length_take]; omega), hget j (by omega), if_pos c1]
        exact hrel j (by omega)
      · have : (C.take i ++ List.replicate (n + 1 - i) AV.any).getD j .any = .any := by
          rw [avapp_getD, if_neg (by rw [List.length_take]; omega)]
          simp only [List.getD, List.getElem?_replicate]
          split <;> rfl
        rw [this]; exact .any)
    refine ⟨.slice (some ⟨w'.heap.size, 0, none⟩) (n + 1) G, _, _, ?_, e2, ?_⟩
    · simp [execOp, ho, resolve, invoke, builtin, hvv, h39, hrun]
    · rw [hd]
      have hs : StRel Try.prog _ _ ⟨(iT8 n i [(34, .sl 0 0 i), (39, .c (.int .i64 (n + 1 - i : Nat)))] (iH C x)).fr, iH C x ++ [iB (C.take i ++ List.replicate (n + 1 - i) .any)]⟩ a' := ⟨h1.fr.mono e2, h2, h1.df⟩
      have hvr : VR Try.prog (w'.drew.alloc (.cells (olds.toArray ++ Builtin.zeroCells z.cells (n + 1 - i) ++ Builtin.zeroCells z.cells (G - (n + 1))) 3)) (upd ι' 2 (.here w'.heap.size)) true (.sl 2 0 (n + 1)) (.slice (some ⟨w'.heap.size, 0, none⟩) (n + 1) G) := by
        have := VR.slAt (P := Try.prog) (w := w'.drew.alloc (.cells (olds.toArray ++ Builtin.zeroCells z.cells (n + 1 - i) ++ Builtin.zeroCells z.cells (G - (n + 1))) 3)) (ι := upd ι' 2 (.here w'.heap.size)) (b := 2) (off := 0) (n := n + 1) (cap := G) (by simp) (pushed_drew w' _).new hge (by rw [cells3, hrs]; omega) hGm
        simpa using this
      exact (hs.put hvr (some 40)).keep [0, 1, 2, 7, 8, 40]

/-- The row made longer, where there is room. -/
theorem r13_all (C : List AV) (x : AV) (n i N : Nat) (hn : n ≤ 255) (hi : i < n) (hN : n + 1 ≤ N) (hC : C.length = n) {Q : Exit → Act → World → Prop} {a : Act} {w : World} {ι : Pl} (hS : StRel Try.prog w ι (iT8 n i [] (iH C x)) a) (hr : Room w ι N)
    (next : ∀ a' w' ι', StRel Try.prog w' ι' (iG n i [(7, .c (.int .i64 1)), (8, .c (.int .i64 n))] (iH (C ++ [.any]) x)) a' → Ext w ι w' ι' → Q .normal a' w') : insR3.wp Try.prog Q a w := by
  refine wp_mid (id := 13) (k := 4) (by kernel_rfl) (by
      have : (Code.rops insR3).toList.length = 6 := by kernel_rfl
      omega) (by kernel_rfl) cl0_ok (hs1 := ⟨true, [(59, ⟨.c (.int .i64 (n + 1 : Nat)), none⟩)]⟩) (hs2 := ⟨true, []⟩) (keep1 := [0, 1, 2, 7, 8, 56, 59]) (keep2 := [0, 1, 2, 7, 8])
    (S1 := iT8 n i [(56, .sl 0 0 n), (59, .c (.int .i64 (n + 1 : Nat)))] (iH C x)) (Sm := iT8 n i [(60, .sl 0 0 (n + 1))] (iH (C ++ [.any]) x)) (S2 := iG n i [(7, .c (.int .i64 1)), (8, .c (.int .i64 n))] (iH (C ++ [.any]) x))
    (p1 := [(IntKind.i64.min : Int) ≤ (n : Int) + 1, (n : Int) + 1 ≤ IntKind.i64.max, (n : Int) + 1 = ((n + 1 : Nat) : Int)]) (p2 := []) (by kernel_rfl) ?_ (by kernel_rfl) trivial hS ?_ next
  · simp only [std]
    omega
  · intro a' w' ι' h1 e1
    have hb : (iH C x)[0]? = some (some ⟨3, false, C⟩) := rfl
    have hr' := hr.ext (e1.toK 2) h1.hp hb
    have hv := h1.fr.rel 56
    have e56 : (iT8 n i [(56, .sl 0 0 n), (59, .c (.int .i64 (n + 1 : Nat)))] (iH C x)).fr.getD 56 .any = .sl 0 0 n := by kernel_rfl
    rw [e56] at hv
    obtain ⟨g0, cur, fz, k1, k2, k3, k4, k5, k6⟩ := room_at h1.hp hb hr' hv (by omega)
    have h59 : a'.eval (.tmp 59) = .int .i64 (n + 1 : Nat) := (h1.ev (.tmp 59)).cInv
    have h56 : a'.eval (.tmp 56) = .slice (some ⟨g0, 0, none⟩) n N := k6
    have ho : (opN insR3 4).op = .slice 22 (.tmp 56) none (some (.tmp 59)) none := by kernel_rfl
    have hd : (opN insR3 4).dst = some 60 := by kernel_rfl
    obtain ⟨ti, z, hti, _⟩ := zeroFits_spec (P := Try.prog) (e := 3) (by kernel_rfl)
    have hrun := run_reslice (P := Try.prog) (w := w') (g := g0) (n := n) (cap := N) (h := n + 1) und22 hti hN (by omega)
    refine ⟨.slice (some ⟨g0, 0, none⟩) (n + 1) N, w', ι', ?_, Ext.refl _ _, ?_⟩
    · simp [execOp, ho, h56, h59]
      rw [show ((n : Int) + 1) = ((n + 1 : Nat) : Int) from rfl, hrun]
      rfl
    · rw [hd]
      obtain ⟨cur', fz', k2', q0, q1, q2, q3, q4⟩ := (h1.hp.live hb).cells k1 k2
      rw [k2] at k2'; cases k2'
      have q1 : C.length ≤ cur.size := q1
      have hblk : BlkOK Try.prog w' ι' 0 ⟨3, false, C ++ [.any]⟩ := by
        refine .inr (.inl ⟨g0, cur, fz, k1, k2, q0, by simp only [List.length_append, List.length_singleton]; omega, fun j hj => q0.one noU8 j (by simp only [List.length_append, List.length_singleton] at hj; omega), fun j hj => ?_⟩)
        simp only [List.length_append, List.length_singleton] at hj
        show VR Try.prog w' ι' false ((C ++ [AV.any]).getD j .any) _
        rw [avapp_getD]
        by_cases c1 : j < C.length
        · rw [if_pos c1]; exact q3 j c1
        · rw [if_neg c1, show j - C.length = 0 by omega]; exact .any
      have h2 := h1.hp.retell hb hblk
      have hs : StRel Try.prog w' ι' ⟨(iT8 n i [(56, .sl 0 0 n), (59, .c (.int .i64 (n + 1 : Nat)))] (iH C x)).fr, iH (C ++ [.any]) x⟩ a' := ⟨h1.fr, h2, h1.df⟩
      have hvr : VR Try.prog w' ι' true (.sl 0 0 (n + 1)) (.slice (some ⟨g0, 0, none⟩) (n + 1) N) := by
        have := VR.slAt (P := Try.prog) (w := w') (ι := ι') (b := 0) (off := 0) (n := n + 1) (cap := N) k1 k2 hN (by rw [cells3]; omega) k5
        simpa using this
      exact (hs.put hvr (some 60)).keep [0, 1, 2, 7, 8, 60]

/-- What is put in lies elsewhere. -/
theorem r14_all (Z : List AV) (x : AV) (n i : Nat) (hn : n ≤ 255) (hi : i < n) (hZ : Z.length = n + 1) {Q : Exit → Act → World → Prop} {a : Act} {w : World} {ι : Pl} (hS : StRel Try.prog w ι (iG n i [(7, .c (.int .i64 1)), (8, .c (.int .i64 n))] (iH Z x)) a)
    (next : ∀ a' w' ι', StRel Try.prog w' ι' (iG n i [(7, .c (.int .i64 1)), (8, .c (.int .i64 n)), (68, .c (.bool true))] (iH Z x)) a' → Ext w ι w' ι' → Q .normal a' w') : insR4.wp Try.prog Q a w := by
  refine wp_mid (id := 14) (k := 6) (by kernel_rfl) (by
      have : (Code.rops insR4).toList.length = 8 := by kernel_rfl
      omega) (by kernel_rfl) cl0_ok (hs1 := ⟨true, [(65, ⟨.c (.int .i64 (i + 1 : Nat)), none⟩)]⟩) (hs2 := ⟨true, []⟩) (keep1 := [0, 1, 2, 7, 8, 61, 66]) (keep2 := [0, 1, 2, 7, 8, 68])
    (S1 := iG n i [(7, .c (.int .i64 1)), (8, .c (.int .i64 n)), (61, .sl 1 0 1), (66, .sl 0 (i + 1) (n + 1 - (i + 1)))] (iH Z x)) (Sm := iG n i [(7, .c (.int .i64 1)), (8, .c (.int .i64 n)), (67, .c (.bool false))] (iH Z x)) (S2 := iG n i [(7, .c (.int .i64 1)), (8, .c (.int .i64 n)), (68, .c (.bool true))] (iH Z x))
    (p1 := [(IntKind.i64.min : Int) ≤ (i : Int) + 1, (i : Int) + 1 ≤ IntKind.i64.max, (i : Int) + 1 = ((i + 1 : Nat) : Int), (0 : Int) ≤ ((i + 1 : Nat) : Int), ((i + 1 : Nat) : Int) ≤ ((n + 1 : Nat) : Int), ((n + 1 : Nat) : Int) ≤ ((n + 1 : Nat) : Int)]) (p2 := []) (by kernel_rfl) ?_ (by kernel_rfl) trivial hS ?_ next
  · simp only [std]
    omega
  · intro a' w' ι' h1 e1
    have hb : (iH Z x)[0]? = some (some ⟨3, false, Z⟩) := rfl
    have hb1 : (iH Z x)[1]? = some (some ⟨3, false, [x]⟩) := rfl
    have ho : (opN insR4 6).op = .call { callee := .value (.func 42), args := #[.tmp 61, .tmp 66], argTypes := #[22, 22] } := by kernel_rfl
    have hd : (opN insR4 6).dst = some 67 := by kernel_rfl
    have hv61 := h1.fr.rel 61
    have hv66 := h1.fr.rel 66
    have e61 : (iG n i [(7, .c (.int .i64 1)), (8, .c (.int .i64 n)), (61, .sl 1 0 1), (66, .sl 0 (i + 1) (n + 1 - (i + 1)))] (iH Z x)).fr.getD 61 .any = .sl 1 0 1 := by kernel_rfl
    have e66 : (iG n i [(7, .c (.int .i64 1)), (8, .c (.int .i64 n)), (61, .sl 1 0 1), (66, .sl 0 (i + 1) (n + 1 - (i + 1)))] (iH Z x)).fr.getD 66 .any = .sl 0 (i + 1) (n + 1 - (i + 1)) := by kernel_rfl
    rw [e61] at hv61
    rw [e66] at hv66
    obtain ⟨g1, c1, cur1, fz1, k1, k2, k3, k4, k5, k6⟩ := hv61.slPlace (h1.hp.live hb1) (by omega)
    obtain ⟨g0, c0, cur0, fz0, j1, j2, j3, j4, j5, j6⟩ := hv66.slPlace (h1.hp.live hb) (by omega)
    have hne : g1 ≠ g0 := by
      rintro rfl
      have := h1.hp.inj _ _ _ k1 j1
      cases this
    obtain ⟨cur1', fz1', k2', q1, _⟩ := (h1.hp.live hb1).cells k1 k2
    rw [k2] at k2'; cases k2'
    obtain ⟨cur0', fz0', j2', q0, _⟩ := (h1.hp.live hb).cells j1 j2
    rw [j2] at j2'; cases j2'
    obtain ⟨ti, z, hti, _⟩ := zeroFits_spec (P := Try.prog) (e := 3) (by kernel_rfl)
    have hover := run_apart (P := Try.prog) (w := w') (t := 22) (ps := #[22, 22]) (rs := #[4]) rfl und22 hti (o1 := 0 * Try.prog.cellsOf 3) (l1 := 1) (c1 := c1) (o2 := (i + 1) * Try.prog.cellsOf 3) (l2 := n + 1 - (i + 1)) (c2 := c0) k2 j2 hne (q1.out noU8) (q0.out noU8)
    have hfun := run_callFunc_extern (P := Try.prog) (f := 42) Try.func42 (by kernel_rfl) (by kernel_rfl) (by kernel_rfl) (e := Extern.SlicesOverlaps.overlaps #[22, 22] #[4]) (by kernel_rfl) #[.slice (some ⟨g1, 0 * Try.prog.cellsOf 3, none⟩) 1 c1, .slice (some ⟨g0, (i + 1) * Try.prog.cellsOf 3, none⟩) (n + 1 - (i + 1)) c0] w'
    rw [hover] at hfun
    have hex : (execOp a'.eval (opN insR4 6)).run Try.prog w' = .ok (.value (.bool false)) w' := by
      have e : execOp a'.eval (opN insR4 6) = (do let d ← resolve a'.eval { callee := .value (.func 42), args := #[.tmp 61, .tmp 66], argTypes := #[22, 22] } (opN insR4 6).type; invoke d.target d.args) := by simp only [execOp, ho]
      have k6 : a'.eval (.tmp 61) = _ := k6
      have j6 : a'.eval (.tmp 66) = _ := j6
      rw [e]
      have hsim : (do let d ← resolve a'.eval { callee := .value (.func 42), args := #[.tmp 61, .tmp 66], argTypes := #[22, 22] } (opN insR4 6).type; invoke d.target d.args : Sem Next).run Try.prog w' = (callFunc 42 #[a'.eval (.tmp 61), a'.eval (.tmp 66)]).run Try.prog w' := by
        simp [resolve, invoke, Act.eval, Deferred.ofValue]
      rw [hsim, k6, j6, hfun]
      rfl
    refine ⟨.bool false, w', ι', hex, Ext.refl _ _, ?_⟩
    rw [hd]
    exact (h1.put (x := .c (.bool false)) .c (some 67)).keep [0, 1, 2, 7, 8, 67]

end Go.Proofs.Ytljgmgbjfjhjmaa
