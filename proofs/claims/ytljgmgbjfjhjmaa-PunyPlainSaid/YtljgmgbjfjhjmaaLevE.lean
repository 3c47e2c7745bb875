/- Each single operation does what its abstract twin says: append, conversions, slices that are made. -/
import Derived.Test.YtljgmgbjfjhjmaaLevD
import Derived.Lib.UnsafeStr
namespace Go.Proofs.Ytljgmgbjfjhjmaa
open Go.RowKit
set_option linter.unusedSimpArgs false
set_option linter.unusedVariables false

variable [Gv] {P : Program} {w : World} {ι : Pl} {hp : Heap}

omit [Gv] in
theorem grown_ge (w : World) (need old : Nat) (e : TypeId) : need ≤ grownCap w need old e := grownCap_ge w need old e

omit [Gv] in
theorem run_app_grow {t u ty e : TypeId} {d : TypeDesc} {i : TypeInfo} {z : Value} (ht : P.underlying t = some (.slice e)) (hu : P.underlying u = some d) (hd : ∀ k, d ≠ .int k) (hi : P.info? e = some i) (hz : i.zero = some z)
    {base : Option Addr} {sLen sCap n : Nat} {x : Value} {olds news : List Value}
    (hfo : (Builtin.firstCells i.size sLen (.slice base sLen sCap)).run P w.drew = .ok olds.toArray w.drew)
    (hlen : (Builtin.lenOf x).run P w = .ok n w) (hf : (Builtin.firstCells i.size n x).run P w.drew = .ok news.toArray w.drew)
    (hg : sCap < sLen + n) (h63 : sLen + n ≤ 4611686018427387904) (hb : (sLen + n) * i.bytes ≤ 140737488355328) :
    (Builtin.append_ #[t, u] ty #[.slice base sLen sCap, x]).run P w =
      .ok (.slice (some ⟨w.heap.size, 0, none⟩) (sLen + n) (grownCap w (sLen + n) sCap e))
        (w.drew.alloc (.cells (olds.toArray ++ news.toArray ++ Builtin.zeroCells z.cells (grownCap w (sLen + n) sCap e - (sLen + n))) e)) := by
  have hn : ¬ (sLen + n ≤ sCap) := by omega
  have h63' : ¬ (9223372036854775807 < ((sLen : Int) + (n : Int))) := by omega
  have hfit := growslice_fits (by omega : sCap < sLen + n) hb
  have h48' : ¬ (281474976710656 < Builtin.nextslicecap (sLen + n) sCap * i.bytes) := by omega
  simp [Builtin.append_, run_underlying ht, run_underlying hu, sizeOf, typeInfo, zeroValue, hi, hz, hlen, hn, h63', h48', Question.forced, hf, hfo, newRow, grownCap]
  congr 2
  apply Array.ext'
  simp

omit [Gv] in
theorem run_app_room {t u ty e : TypeId} {d : TypeDesc} {i : TypeInfo} (ht : P.underlying t = some (.slice e)) (hu : P.underlying u = some d) (hd : ∀ k, d ≠ .int k) (hi : P.info? e = some i)
    {g off sLen sCap n : Nat} {x : Value} {news : List Value} {cur : Array Value} {e' : TypeId} {fz : Nat × Nat} (hg : w.heap[g]? = some (.cells cur e' fz)) (hfz : ∀ off, off < cur.size → ¬ (fz.1 ≤ off ∧ off < fz.2))
    (hlen : (Builtin.lenOf x).run P w = .ok n w) (hf : (Builtin.firstCells i.size n x).run P w = .ok news.toArray w) (hroom : sLen + n ≤ sCap) (hfit : off + sLen * i.size + news.length ≤ cur.size) (h1 : ∀ v ∈ news, v.oneCell' = true) :
    (Builtin.append_ #[t, u] ty #[.slice (some ⟨g, off, none⟩) sLen sCap, x]).run P w =
      .ok (.slice (some ⟨g, off, none⟩) (sLen + n) sCap) (w.setRow g (cur.toList.take (off + sLen * i.size) ++ news ++ cur.toList.drop (off + sLen * i.size + news.length)).toArray) := by
  have hst := run_storeCells_fz (P := P) g (off + sLen * i.size) e' fz news 0 cur w hg hfz (by simpa using hfit) h1
  simp only [Nat.add_zero] at hst
  have hadd : (⟨g, off, none⟩ : Addr).add (sLen * i.size) = ⟨g, off + sLen * i.size, none⟩ := by unfold Addr.add; split <;> simp_all
  simp [Builtin.append_, run_underlying ht, run_underlying hu, sizeOf, typeInfo, hi, hlen, hroom, hf, hadd, hst]

omit [Gv] in
theorem run_app_none {t u ty e : TypeId} {d : TypeDesc} {i : TypeInfo} (ht : P.underlying t = some (.slice e)) (hu : P.underlying u = some d) (hd : ∀ k, d ≠ .int k) (hi : P.info? e = some i)
    {base : Option Addr} {x : Value} (hlen : (Builtin.lenOf x).run P w = .ok 0 w) (hf : (Builtin.firstCells i.size 0 x).run P w = .ok #[] w) :
    (Builtin.append_ #[t, u] ty #[.slice base 0 0, x]).run P w = .ok (.slice base 0 0) w := by
  cases base <;> simp [Builtin.append_, run_underlying ht, run_underlying hu, sizeOf, typeInfo, hi, hlen, hf, storeCells]

/-- What an append's second operand is good for, in every world with this memory. -/
structure News (P : Program) (w : World) (ι : Pl) (size n : Nat) (op : Bool) (l : List AV) (x : Value) (us : List Value) : Prop where
  len : ∀ W : World, (Builtin.lenOf x).run P W = .ok n W
  cells : ∀ W : World, W.heap = w.heap → (Builtin.firstCells size n x).run P W = .ok us.toArray W
  pre : ∀ k, k ≤ n → (Builtin.firstCells size k x).run P w = .ok (us.take (k * size)).toArray w
  ul : us.length = n * size
  ll : l.length = n * size
  one : ∀ j, j < us.length → (us.getD j undef).oneCell' = true
  rel : ∀ j, j < us.length → VR P w ι op (l.getD j .any) (us.getD j undef)

omit [Gv] in
theorem cellsAt_list {g off : Nat} {us : Nat → Value} {n : Nat} {W : World} (hc : ∀ j, j < n → w.cell? ⟨g, off + j, none⟩ = some (us j)) (hW : W.heap = w.heap) (a : Addr) (ha : a = ⟨g, off, none⟩) :
    (loadCells a n).run P W = .ok ((List.range n).map us).toArray W := by
  subst ha
  refine run_loadCells W ⟨g, off, none⟩ n us fun j hj => ?_
  have : (⟨g, off, none⟩ : Addr).add j = ⟨g, off + j, none⟩ := by unfold Addr.add; split <;> simp_all
  rw [this, ← hc j hj]
  simp [World.cell?, hW]

omit [Gv] in
theorem map_range_getD (us : Nat → Value) (n j : Nat) (h : j < n) : ((List.range n).map us).getD j undef = us j := by simp [List.getD, h]

omit [Gv] in
theorem take_map_range {β : Type} (f : Nat → β) (n k : Nat) (h : k ≤ n) : ((List.range n).map f).take k = (List.range k).map f := by
  rw [← List.map_take, List.take_range, Nat.min_eq_left h]

omit [Gv] in
theorem byts_getD (l : List UInt8) (j : Nat) (h : j < l.length) : (byts l).getD j .any = byteC l[j] := by simp [byts, List.getD, h]

theorem newsOf_ok {e : TypeId} {x : AV} {v : Value} {cks : List Ck} {n : Nat} {op : Bool} {l : List AV} (hh : HpRel P w ι hp) (hv : VR P w ι true x v) (h : newsOf P hp e x = some (cks, n, op, l)) (hc : Ck.conj cks) :
    ∃ us, News P w ι (P.cellsOf e) n op l v us := by
  unfold newsOf at h
  split at h
  · rename_i b off m
    split at h
    · rename_i B hb
      split at h
      · rename_i hBe
        simp only [Option.some.injEq, Prod.mk.injEq] at h
        obtain ⟨rfl, rfl, rfl, rfl⟩ := h
        have h1 := hc.1
        simp only [ck, mulS_eq] at h1
        rcases Nat.eq_zero_or_pos m with hm | hm
        · subst hm
          obtain ⟨a, cap, rfl, _⟩ := hv.slShape (hh.notDead hb)
          refine ⟨[], fun W => by simp [Builtin.lenOf], fun W hW => ?_, fun k hk => ?_, by simp, by simp [mulS_eq], by simp, by simp⟩
          · cases a <;> simp [Builtin.firstCells, loadCells, loadCellsFrom]
          · obtain rfl : k = 0 := by omega
            cases a <;> simp [Builtin.firstCells, loadCells, loadCellsFrom]
        · obtain ⟨g, cap, cur, fz, hg, hcur, hn, hs, hmx, rfl⟩ := hv.slPlace (hh.live hb) hm
          obtain ⟨cur', fz', hcur', _, hlen, hone, hrel, hcell⟩ := (hh.live hb).cells hg hcur
          rw [hcur] at hcur'; cases hcur'
          have hsum : off * P.cellsOf e + m * P.cellsOf e ≤ B.cells.length := by rw [← Nat.add_mul, Nat.add_comm]; exact h1
          rw [hBe] at *
          refine ⟨(List.range (m * P.cellsOf e)).map fun j => cur.getD (off * P.cellsOf e + j) undef, fun W => by simp [Builtin.lenOf], fun W hW => ?_, fun k hk => ?_, by simp, ?_, ?_, ?_⟩
          · simp only [Builtin.firstCells]
            exact cellsAt_list (fun j hj => hcell _ (by omega)) hW _ rfl
          · simp only [Builtin.firstCells]
            have hkm : k * P.cellsOf e ≤ m * P.cellsOf e := Nat.mul_le_mul_right _ hk
            rw [take_map_range _ _ _ hkm]
            exact cellsAt_list (fun j hj => hcell _ (by omega)) rfl _ rfl
          · rw [mulS_eq, mulS_eq, List.length_take, List.length_drop]; omega
          · intro j hj
            simp at hj
            rw [map_range_getD _ _ _ hj]
            exact hone _ (by omega)
          · intro j hj
            simp at hj
            rw [map_range_getD _ _ _ hj, mulS_eq, mulS_eq, take_getD _ _ _ hj, drop_getD]
            exact hrel _ (by omega)
      · simp at h
    · simp at h
  · rename_i s m l'
    split at h
    · rename_i hs
      simp only [Option.some.injEq, Prod.mk.injEq] at h
      obtain ⟨rfl, rfl, rfl, rfl⟩ := h
      have hl := hc.1
      simp only [ck, mulS_eq] at hl
      subst hs
      cases hv with
      | fsZero =>
        rename_i a cap
        refine ⟨[], fun W => by simp [Builtin.lenOf], fun W hW => ?_, fun k hk => ?_, by simp, by simp, by simp, by simp⟩
        · cases a <;> simp [Builtin.firstCells, loadCells, loadCellsFrom]
        · obtain rfl : k = 0 := by omega
          cases a <;> simp [Builtin.firstCells, loadCells, loadCellsFrom]
      | fs hn hl2 hg hno hcl ho hr =>
        rename_i g off cap us
        refine ⟨(List.range (m * P.cellsOf e)).map us, fun W => by simp [Builtin.lenOf], fun W hW => ?_, fun k hk => ?_, by simp, hl, ?_, ?_⟩
        · simp only [Builtin.firstCells]
          exact cellsAt_list (fun j hj => hcl j (by omega)) hW _ rfl
        · simp only [Builtin.firstCells]
          have hkm : k * P.cellsOf e ≤ m * P.cellsOf e := Nat.mul_le_mul_right _ hk
          rw [take_map_range _ _ _ hkm]
          exact cellsAt_list (fun j hj => hcl j (by omega)) rfl _ rfl
        · intro j hj
          simp at hj
          rw [map_range_getD _ _ _ hj]
          exact ho _ (by omega)
        · intro j hj
          simp at hj
          rw [map_range_getD _ _ _ hj]
          exact hr _ (by omega)
    · simp at h
  · simp only [Option.some.injEq, Prod.mk.injEq] at h
    obtain ⟨rfl, rfl, rfl, rfl⟩ := h
    rw [hv.cInv]
    exact ⟨[], fun W => by simp [Builtin.lenOf], fun W hW => by simp [Builtin.firstCells], fun k hk => by simp [Builtin.firstCells], by simp, by simp, by simp, by simp⟩
  · rename_i s
    split at h
    · rename_i hs
      simp only [Option.some.injEq, Prod.mk.injEq] at h
      obtain ⟨rfl, rfl, rfl, rfl⟩ := h
      rw [hv.cInv]
      refine ⟨(sb s).map fun b => .int .u8 b.toNat, fun W => by simp [Builtin.lenOf, sb_size], fun W hW => ?_, fun k hk => ?_, by simp [hs], by simp [byts, hs], ?_, ?_⟩
      · have e1 : s.extract 0 (sb s).length = s := by
          have := extract_sb s 0 (sb s).length
          simp at this
          unfold str at this
          cases s with
          | mk d =>
            have h2 := Value.string.inj this
            rw [h2]
            rfl
        simp only [Builtin.firstCells, e1]
        simp only [sb, Sem.run_pure]
        congr 1
        apply Array.ext'
        simp
      · have e1 := extract_sb s 0 k
        simp only [List.drop_zero] at e1
        have e2 : s.extract 0 k = ⟨⟨(sb s).take k⟩⟩ := by
          unfold str at e1
          exact Value.string.inj e1
        simp only [Builtin.firstCells, e2, Sem.run_pure, hs, Nat.mul_one]
        congr 1
        apply Array.ext'
        simp
      · intro j hj
        simp at hj
        simp [List.getD, hj, Value.oneCell']
      · intro j hj
        simp at hj
        rw [byts_getD _ _ hj]
        simp only [List.getD, List.getElem?_map, List.getElem?_eq_getElem hj, Option.map_some, Option.getD_some]
        exact .c
    · simp at h
  · simp at h

omit [Gv] in
theorem zeroFits_spec {e : TypeId} (h : zeroFits P e = true) : ∃ i z, P.info? e = some i ∧ i.zero = some z ∧ z.cells.size = P.cellsOf e ∧ i.size = P.cellsOf e ∧ i.bytes = P.bytesOf e ∧ ∀ v ∈ z.cells.toList, v.oneCell' = true := by
  unfold zeroFits zeroOf at h
  cases hi : P.info? e with
  | none => simp [hi] at h
  | some i =>
    simp only [hi, Option.bind_some] at h
    cases hz : i.zero with
    | none => simp [hz] at h
    | some z =>
      simp only [hz, Option.bind_some] at h
      split at h
      · rename_i l hl
        split at hl
        · rename_i hone
          cases hl
          simp at h
          exact ⟨i, z, rfl, hz, h, by simp [Program.cellsOf, hi], by simp [Program.bytesOf, hi], fun v hv => List.all_eq_true.1 hone v hv⟩
        · simp at hl
      · simp at h

omit [Gv] in
theorem app_getD (a b c : List Value) (j : Nat) : (a.toArray ++ b.toArray ++ c.toArray).getD j undef = if j < a.length then a.getD j undef else if j < a.length + b.length then b.getD (j - a.length) undef else c.getD (j - a.length - b.length) undef := by
  rw [← toList_getD]
  simp only [Array.toList_append, List.getD, List.append_assoc, List.getElem?_append]
  by_cases h1 : j < a.length
  · simp [h1]
  · simp only [h1, if_false]
    by_cases h2 : j < a.length + b.length
    · rw [if_pos (by omega), if_pos h2]
    · rw [if_neg (by omega), if_neg h2]

omit [Gv] in
theorem avapp_getD (l k : List AV) (j : Nat) : (l ++ k).getD j .any = if j < l.length then l.getD j .any else k.getD (j - l.length) .any := getD_append l k j

omit [Gv] in
theorem zero_one {z : Array Value} (h1 : ∀ v ∈ z.toList, v.oneCell' = true) (n j : Nat) (hj : j < (Builtin.zeroCells z n).size) : ((Builtin.zeroCells z n).getD j undef).oneCell' = true := by
  have hs : (Builtin.zeroCells z n).size = n * z.size := by simp [Builtin.zeroCells]
  rw [hs] at hj
  have hz : 0 < z.size := by
    rcases Nat.eq_zero_or_pos z.size with h | h
    · rw [h] at hj; omega
    · exact h
  have hm : j % z.size < z.size := Nat.mod_lt _ hz
  have e : (Builtin.zeroCells z n).getD j undef = z[j % z.size] := by
    simp [Builtin.zeroCells, Array.getD, hj, hm]
  rw [e]
  exact h1 _ (by simp)

omit [Gv] in
/-- A new row behind an append that grew. -/
theorem grow_post {e : TypeId} {z : Value} {olds news : List Value} {lo ln : List AV} {n m N : Nat} {op : Bool} (hN : n + m ≤ N) (hzs : z.cells.size = P.cellsOf e) (hz1 : ∀ v ∈ z.cells.toList, v.oneCell' = true)
    (ol : olds.length = n * P.cellsOf e) (nl : news.length = m * P.cellsOf e) (lol : lo.length = n * P.cellsOf e) (lnl : ln.length = m * P.cellsOf e)
    (o1 : ∀ j, j < olds.length → (olds.getD j undef).oneCell' = true) (n1 : ∀ j, j < news.length → (news.getD j undef).oneCell' = true)
    (orl : ∀ j, j < olds.length → VR P w ι op (lo.getD j .any) (olds.getD j undef)) (nr : ∀ j, j < news.length → VR P w ι op (ln.getD j .any) (news.getD j undef)) :
    (olds.toArray ++ news.toArray ++ Builtin.zeroCells z.cells (N - (n + m))).size = N * P.cellsOf e ∧ (lo ++ ln).length ≤ (olds.toArray ++ news.toArray ++ Builtin.zeroCells z.cells (N - (n + m))).size ∧
    (∀ j, j < (lo ++ ln).length → ((olds.toArray ++ news.toArray ++ Builtin.zeroCells z.cells (N - (n + m))).getD j undef).oneCell' = true) ∧
    (∀ j, j < (lo ++ ln).length → VR P w ι op ((lo ++ ln).getD j .any) ((olds.toArray ++ news.toArray ++ Builtin.zeroCells z.cells (N - (n + m))).getD j undef)) ∧ RowOK P e (olds.toArray ++ news.toArray ++ Builtin.zeroCells z.cells (N - (n + m))) (0, 0) := by
  have hsz : (olds.toArray ++ news.toArray ++ Builtin.zeroCells z.cells (N - (n + m))).size = N * P.cellsOf e := by
    simp only [Array.size_append, List.size_toArray, size_zeroCells, hzs, ol, nl, ← Nat.add_mul]
    congr 1
    omega
  have hll : (lo ++ ln).length = (n + m) * P.cellsOf e := by rw [List.length_append, lol, lnl, Nat.add_mul]
  have hle : (n + m) * P.cellsOf e ≤ N * P.cellsOf e := Nat.mul_le_mul_right _ hN
  have hz : Builtin.zeroCells z.cells (N - (n + m)) = (Builtin.zeroCells z.cells (N - (n + m))).toList.toArray := by simp
  have hsum : n * P.cellsOf e + m * P.cellsOf e = (n + m) * P.cellsOf e := by rw [Nat.add_mul]
  refine ⟨hsz, by rw [hsz, hll]; exact hle, ?_, ?_, rowOK0 fun _ j hj => ?_⟩
  rotate_left 2
  · have hzc := size_zeroCells z.cells (N - (n + m))
    have hj' := hj
    rw [Array.size_append, Array.size_append, List.size_toArray, List.size_toArray] at hj'
    rw [hz, app_getD]
    split
    · exact o1 j (by omega)
    · split
      · exact n1 _ (by omega)
      · rw [toList_getD]
        exact zero_one hz1 _ _ (by omega)
  · intro j hj
    rw [hll] at hj
    rw [hz, app_getD]
    split
    · exact o1 j (by omega)
    · rw [if_pos (by omega)]
      exact n1 _ (by omega)
  · intro j hj
    rw [hll] at hj
    rw [hz, app_getD, avapp_getD, lol, ol]
    split
    · exact orl j (by omega)
    · rw [if_pos (by omega)]
      exact nr _ (by omega)

omit [Gv] in
theorem pushed_alloc (w : World) (o : Obj) : Pushed w (w.alloc o) o := ⟨rfl, rfl, rfl, rfl⟩
omit [Gv] in
theorem pushed_drew (w : World) (o : Obj) : Pushed w (w.drew.alloc o) o := ⟨rfl, rfl, rfl, rfl⟩

omit [Gv] in
theorem unfrozen0 (n : Nat) : ∀ off, off < n → ¬ (((0, 0) : Nat × Nat).1 ≤ off ∧ off < ((0, 0) : Nat × Nat).2) := by intro off _ h; simp at h

/-- What an append leaves, in both its ways. -/
theorem append_ok {t u ty : TypeId} {d : TypeDesc} (hu : P.underlying u = some d) (hd : ∀ k, d ≠ .int k) {s x : AV} {vs vx : Value} {cks : List Ck} {av : AV} {cmd : Cmd}
    (hh : HpRel P w ι hp) (hs : VR P w ι true s vs) (hx : VR P w ι true x vx) (h : appA P hp t s x = some (cks, av, cmd)) (hc : Ck.conj cks) :
    ∃ v w' ι', (Builtin.append_ #[t, u] ty #[vs, vx]).run P w = .ok v w' ∧ Ext w ι w' ι' ∧ HpRel P w' ι' (cmd.run hp) ∧ VR P w' ι' true av v ∧ CmdPost w ι w' ι' cmd := by
  unfold appA at h
  split at h
  · rename_i e he
    obtain ⟨ht, hz0, i', hi', hsz'⟩ := elemOf_spec he
    split at h
    · rename_i ck1 n op l hnews
      split at h
      · rename_i hzf
        obtain ⟨i, z, hi, hz, hzs, hsz, hby, hz1⟩ := zeroFits_spec hzf
        split at h
        · -- onto nil
          simp only [Option.some.injEq, Prod.mk.injEq] at h
          obtain ⟨rfl, rfl, rfl⟩ := h
          obtain ⟨c1, c2, c3, _⟩ := conj_append hc
          simp only [ck] at c2 c3
          obtain ⟨us, hn⟩ := newsOf_ok hh hx hnews c1
          rw [hs.cInv]
          rcases Nat.eq_zero_or_pos n with hn0 | hn0
          · subst hn0
            have hus : us = [] := List.eq_nil_of_length_eq_zero (by simpa using hn.ul)
            have hl : l = [] := List.eq_nil_of_length_eq_zero (by simpa using hn.ll)
            subst hus; subst hl
            have hpush := hh.pushVirt (B := ⟨e, op, []⟩) rfl
            exact ⟨_, _, _, run_app_none ht hu hd hi (hn.len w) (by rw [hsz]; exact hn.cells w rfl), hpush.1, hpush.2, .slZero, fun _ _ => rfl⟩
          · have hrun := run_app_grow (P := P) (w := w) (ty := ty) (base := none) (sLen := 0) (sCap := 0) (olds := []) ht hu hd hi hz (by simp [Builtin.firstCells]) (hn.len w) (by rw [hsz]; exact hn.cells w.drew rfl) (by omega) (by omega) (by rw [hby]; simpa using c2)
            simp only [Nat.zero_add] at hrun
            have hN := grownCap_ge w n 0 e
            obtain ⟨g1, g2, g3, g4, g5⟩ := grow_post (P := P) (w := w) (ι := ι) (e := e) (z := z) (olds := []) (lo := []) (n := 0) (op := op) (N := grownCap w n 0 e) (by omega) hzs hz1 (by simp) hn.ul (by simp) hn.ll (by simp) hn.one (by simp) hn.rel
            simp only [Nat.zero_add, List.nil_append] at g1 g2 g3 g4 g5
            have hpush := hh.push (B := ⟨e, op, l⟩) (pushed_drew w _) g5 g2 g3 g4
            refine ⟨_, _, _, hrun, hpush.1, hpush.2, ?_, fun g hg => (pushed_drew w _).old hg⟩
            have : (⟨w.heap.size, 0, none⟩ : Addr) = ⟨w.heap.size, 0 * P.cellsOf e, none⟩ := by simp
            rw [this]
            refine .slAt (by simp) (pushed_drew w _).new hN (by rw [Nat.zero_add, g1]) (grownCap_le_maxLen w n 0 e (by simp only [maxLen]; omega))
        · rename_i b len
          split at h
          · rename_i B hb
            split at h
            · rename_i hBe
              simp only [Option.some.injEq, Prod.mk.injEq] at h
              obtain ⟨rfl, rfl, rfl⟩ := h
              obtain ⟨c1, c2, c3, c4, _⟩ := conj_append hc
              simp only [ck, mulS_eq] at c2 c3 c4
              obtain ⟨us, hn⟩ := newsOf_ok hh hx hnews c1
              have hbl : b < hp.length := (List.getElem?_eq_some_iff.1 hb).1
              have hlo : (B.cells.take (len * P.cellsOf e)).length = len * P.cellsOf e := by rw [List.length_take]; omega
              have hww : ∀ {o : Bool} {a : AV} {v : Value}, VR P w ι B.op a v → VR P w ι (B.op || op) a v := fun r => r.weak (by intro h; simp [h])
              have hww2 : ∀ {o : Bool} {a : AV} {v : Value}, VR P w ι op a v → VR P w ι (B.op || op) a v := fun r => r.weak (by intro h; simp [h])
              rw [mulS_eq]
              -- the ways: nothing anywhere; room; none
              have caseEmpty : ∀ a, vs = .slice a 0 0 → len = 0 → ∃ v w' ι', (Builtin.append_ #[t, u] ty #[vs, vx]).run P w = .ok v w' ∧ Ext w ι w' ι' ∧ HpRel P w' ι' ((Cmd.move b ⟨e, B.op || op, B.cells.take (len * P.cellsOf e) ++ l⟩).run hp) ∧ VR P w' ι' true (.sl hp.length 0 (len + n)) v ∧ True := by
                intro a hva hl0
                subst hva; subst hl0
                simp only [Nat.zero_mul, List.take_zero, List.nil_append, Nat.zero_add] at *
                rcases Nat.eq_zero_or_pos n with hn0 | hn0
                · subst hn0
                  have hus : us = [] := List.eq_nil_of_length_eq_zero (by simpa using hn.ul)
                  have hl : l = [] := List.eq_nil_of_length_eq_zero (by simpa using hn.ll)
                  subst hus; subst hl
                  obtain ⟨ι', m1, m2⟩ := hh.moveVirt hbl (B := ⟨e, B.op || op, []⟩) rfl
                  exact ⟨_, _, ι', run_app_none ht hu hd hi (hn.len w) (by rw [hsz]; exact hn.cells w rfl), m1, m2, .slZero, trivial⟩
                · have hfo : (Builtin.firstCells i.size 0 (.slice a 0 0)).run P w.drew = .ok ([] : List Value).toArray w.drew := by cases a <;> simp [Builtin.firstCells, loadCells, loadCellsFrom]
                  have hrun := run_app_grow (P := P) (w := w) (ty := ty) (base := a) (sLen := 0) (sCap := 0) (olds := []) ht hu hd hi hz hfo (hn.len w) (by rw [hsz]; exact hn.cells w.drew rfl) (by omega) (by omega) (by rw [hby]; simpa using c2)
                  simp only [Nat.zero_add] at hrun
                  have hN := grownCap_ge w n 0 e
                  obtain ⟨g1, g2, g3, g4, g5⟩ := grow_post (P := P) (w := w) (ι := ι) (e := e) (z := z) (olds := []) (lo := []) (n := 0) (op := B.op || op) (N := grownCap w n 0 e) (by omega) hzs hz1 (by simp) hn.ul (by simp) hn.ll (by simp) hn.one (by simp) (fun j hj => hww2 (o := true) (hn.rel j hj))
                  simp only [Nat.zero_add, List.nil_append] at g1 g2 g3 g4 g5
                  obtain ⟨ι', m0, m1, m2⟩ := hh.movePush hbl (B := ⟨e, B.op || op, l⟩) (pushed_drew w _) g5 g2 g3 g4
                  refine ⟨_, _, ι', hrun, m1, m2, ?_, trivial⟩
                  have : (⟨w.heap.size, 0, none⟩ : Addr) = ⟨w.heap.size, 0 * P.cellsOf e, none⟩ := by simp
                  rw [this]
                  exact .slAt m0 (pushed_drew w _).new hN (by rw [Nat.zero_add, g1]) (grownCap_le_maxLen w n 0 e (by simp only [maxLen]; omega))
              cases hs with
              | slDead hdd => exact absurd hdd (hh.notDead hb)
              | slZero => exact caseEmpty _ rfl rfl
              | slAt hg hcur hnc hcs hm =>
                rename_i g cap cur e' fz
                obtain ⟨cur', fz', hcur', hfz, hlen, hone, hrel, hcell⟩ := (hh.live hb).cells hg hcur
                rw [hcur] at hcur'; cases hcur'
                rw [hBe] at hcs
                simp only [Nat.zero_add] at hcs
                have e0 : (⟨g, 0 * P.cellsOf B.e, none⟩ : Addr) = ⟨g, 0, none⟩ := by simp
                rw [e0]
                by_cases hroom : len + n ≤ cap
                · have hmul : (len + n) * P.cellsOf e ≤ cap * P.cellsOf e := Nat.mul_le_mul_right _ hroom
                  have hadd : len * P.cellsOf e + n * P.cellsOf e = (len + n) * P.cellsOf e := by rw [Nat.add_mul]
                  have hfit : 0 + len * i.size + us.length ≤ cur.size := by rw [hsz, hn.ul]; omega
                  have hmem : ∀ v ∈ us, v.oneCell' = true := by
                    intro v hv
                    obtain ⟨j, hj, rfl⟩ := List.getElem_of_mem hv
                    have := hn.one j hj
                    simpa [List.getD, hj] using this
                  have hrun := run_app_room (P := P) (w := w) (ty := ty) ht hu hd hi hcur hfz.in_ (hn.len w) (by rw [hsz]; exact hn.cells w rfl) hroom hfit hmem
                  simp only [Nat.zero_add, hsz] at hrun
                  simp only [Nat.zero_add, hsz] at hfit
                  have hs2 := splice_size cur us (len * P.cellsOf e) hfit
                  have hput := put_setRow w g cur (cur.toList.take (len * P.cellsOf e) ++ us ++ cur.toList.drop (len * P.cellsOf e + us.length)).toArray B.e fz hcur
                  have hll : (B.cells.take (len * P.cellsOf e) ++ l).length = len * P.cellsOf e + n * P.cellsOf e := by rw [List.length_append, hlo, hn.ll]
                  have hmv := hh.moveIn (B := ⟨e, B.op || op, B.cells.take (len * P.cellsOf e) ++ l⟩) hg hbl (by rw [hBe] at hput; exact hput) (by
                      have hfz := hfz
                      rw [hBe] at hfz
                      exact hfz.same hs2 (fun hu8 => splice_one hfit (hfz.one hu8) hn.one)) (by rw [hs2, hll]; omega)
                    (by
                      intro j hj
                      rw [hll] at hj
                      rw [splice_getD _ _ _ _ hfit]
                      split
                      · exact hone j (by omega)
                      · rw [if_pos (by rw [hn.ul]; omega)]
                        exact hn.one _ (by rw [hn.ul]; omega))
                    (by
                      intro j hj
                      rw [hll] at hj
                      rw [splice_getD _ _ _ _ hfit, avapp_getD, hlo]
                      split
                      · rename_i hjl
                        rw [take_getD _ _ _ hjl]
                        exact hww (o := true) (hrel j (by omega))
                      · rw [if_pos (by rw [hn.ul]; omega)]
                        exact hww2 (o := true) (hn.rel _ (by rw [hn.ul]; omega)))
                  refine ⟨_, _, _, hrun, hmv.1, hmv.2, ?_, trivial⟩
                  have e1 : (⟨g, 0, none⟩ : Addr) = ⟨g, 0 * P.cellsOf e, none⟩ := by simp
                  rw [e1]
                  exact .slAt (by simp) (by rw [hBe] at hput; exact hput.here) hroom (by rw [hs2]; simpa using hcs) hm
                · -- it grows
                  let olds := (List.range (len * P.cellsOf e)).map fun j => cur.getD j undef
                  have hfo : (Builtin.firstCells i.size len (.slice (some ⟨g, 0, none⟩) len cap)).run P w.drew = .ok olds.toArray w.drew := by
                    simp only [Builtin.firstCells, hsz]
                    exact cellsAt_list (w := w) (W := w.drew) (n := len * P.cellsOf e) (g := g) (off := 0) (us := fun j => cur.getD j undef) (fun j hj => by rw [Nat.zero_add]; exact hcell j (by omega)) rfl _ rfl
                  have hrun := run_app_grow (P := P) (w := w) (ty := ty) ht hu hd hi hz hfo (hn.len w) (by rw [hsz]; exact hn.cells w.drew rfl) (by omega) c3 (by rw [hby]; exact c2)
                  have hN := grownCap_ge w (len + n) cap e
                  have hol : ∀ j, j < len * P.cellsOf e → olds.getD j undef = cur.getD j undef := fun j hj => map_range_getD _ _ _ hj
                  obtain ⟨g1, g2, g3, g4, g5⟩ := grow_post (P := P) (w := w) (ι := ι) (e := e) (z := z) (olds := olds) (lo := B.cells.take (len * P.cellsOf e)) (n := len) (op := B.op || op) (N := grownCap w (len + n) cap e) (by omega) hzs hz1 (by simp [olds]) hn.ul hlo hn.ll
                    (fun j hj => by
                      have hj' : j < len * P.cellsOf e := by simpa [olds] using hj
                      rw [hol j hj']; exact hone j (by omega)) hn.one
                    (fun j hj => by
                      have hj' : j < len * P.cellsOf e := by simpa [olds] using hj
                      rw [hol j hj', take_getD _ _ _ hj']; exact hww (o := true) (hrel j (by omega)))
                    (fun j hj => hww2 (o := true) (hn.rel j hj))
                  obtain ⟨ι', m0, m1, m2⟩ := hh.movePush hbl (B := ⟨e, B.op || op, B.cells.take (len * P.cellsOf e) ++ l⟩) (pushed_drew w _) g5 g2 g3 g4
                  refine ⟨_, _, ι', hrun, m1, m2, ?_, trivial⟩
                  have : (⟨w.heap.size, 0, none⟩ : Addr) = ⟨w.heap.size, 0 * P.cellsOf e, none⟩ := by simp
                  rw [this]
                  exact .slAt m0 (pushed_drew w _).new hN (by rw [Nat.zero_add, g1]) (grownCap_le_maxLen w (len + n) cap e (by simp only [maxLen]; omega))
            · simp at h
          · simp at h
        · simp at h
      · simp at h
    · simp at h
  · simp at h

omit [Gv] in
theorem isByte_val {a : AV} {v : Value} {o : Bool} (h : isByte a = true) (hv : VR P w ι o a v) : v = .int .u8 (unbyte a).toNat ∧ a = byteC (unbyte a) := by
  unfold isByte at h
  split at h
  · rename_i n
    simp only [decide_eq_true_eq] at h
    have e : ((UInt8.ofNat n.toNat).toNat : Int) = n := by
      rw [UInt8.toNat_ofNat']
      omega
    rw [hv.cInv]
    simp only [unbyte, byteC, e]
    exact ⟨trivial, trivial⟩
  · simp at h

omit [Gv] in
/-- 'string(b)' of a row of bytes. -/
theorem run_bytes_str {s d e : TypeId} {a : Option Addr} {n cap : Nat} {l : List AV} {o : Bool} {us : Nat → Value} (hs : P.underlying s = some (.slice e)) (he : P.underlying e = some (.int .u8)) (hd : P.underlying d = some .string)
    (hl : l.length = n) (hb : bytesOK l) (ha : n = 0 ∨ ∃ g off, a = some ⟨g, off, none⟩ ∧ (∀ j, j < n → w.cell? ⟨g, off + j, none⟩ = some (us j)) ∧ ∀ j, j < n → VR P w ι o (l.getD j .any) (us j)) :
    (convert s d (.slice a n cap)).run P w = .ok (str (unbyts l)) w := by
  rcases ha with h0 | ⟨g, off, rfl, hc, hr⟩
  · subst h0
    have hl0 : l = [] := List.eq_nil_of_length_eq_zero hl
    subst hl0
    rw [run_convert_bytes_string w s d e a 0 cap hs he hd]
    cases a with
    | none => simp [Conv.bytesToString, unbyts, str]; rfl
    | some a =>
      have := run_bytesToString (P := P) w a 0 cap [] (by simp [loadCells, loadCellsFrom])
      rw [this]
      simp [unbyts, str]; rfl
  · have hlen : (unbyts l).length = n := by simp [unbyts, hl]
    have hall : ∀ j, j < n → isByte (l.getD j .any) = true := by
      intro j hj
      have hj' : j < l.length := by omega
      have : l.getD j .any = l[j] := by simp [List.getD, hj']
      rw [this]
      exact List.all_eq_true.1 hb _ (List.getElem_mem hj')
    have := run_convert_bytes_back (P := P) w s d e ⟨g, off, none⟩ cap (unbyts l) hs he hd (fun j hj => by
      have hj' : j < n := by omega
      have h1 := (isByte_val (hall j hj') (hr j hj')).1
      have hadd : (⟨g, off, none⟩ : Addr).add j = ⟨g, off + j, none⟩ := by unfold Addr.add; split <;> simp_all
      have hj2 : j < l.length := by omega
      have : l.getD j .any = l[j] := by simp [List.getD, hj2]
      rw [hadd, hc j hj', h1, this]
      simp [unbyts])
    rw [hlen] at this
    exact this

omit [Gv] in
theorem bytesRow_getD (s : ByteArray) (cap j : Nat) (h : j < (sb s).length) : (bytesRow s cap).getD j undef = .int .u8 (sb s)[j].toNat := by
  have hj : j < s.data.size := by simpa [sb] using h
  have hj2 : j < (s.data.toList.map fun b => Value.int .u8 b.toNat).length := by simpa using hj
  rw [← toList_getD]
  unfold bytesRow
  rw [Array.toList_append, Array.toList_map, List.getD, List.getElem?_append_left hj2, List.getElem?_eq_getElem hj2]
  simp [sb]

omit [Gv] in
theorem fCnv_run {s d : TypeId} {x : AV} {vx v : Value} (hx : VR P w ι true x vx) (h : fCnv P s d x = some v) : (convert s d vx).run P w = .ok v w := by
  unfold fCnv at h
  split at h
  · rename_i q n
    rw [hx.cInv]
    split at h
    · rename_i t ht hd
      cases h
      exact run_convert_int_float w s d q .f64 n (by rw [ht]; rfl) hd
    · simp at h
  · simp at h

theorem conv_ok {s d : TypeId} {x : AV} {vx : Value} {cks : List Ck} {av : AV} {cmd : Cmd} (hh : HpRel P w ι hp) (hx : VR P w ι true x vx) (h : convA P hp s d x = some (cks, av, cmd)) (hc : Ck.conj cks) :
    ∃ v w' ι', (convert s d vx).run P w = .ok v w' ∧ Ext w ι w' ι' ∧ HpRel P w' ι' (cmd.run hp) ∧ VR P w' ι' true av v ∧ CmdPost w ι w' ι' cmd := by
  unfold convA at h
  split at h
  · rename_i e he
    obtain ⟨hd, hz0, _⟩ := elemOf_spec he
    split at h
    · rename_i hcond
      simp only [Bool.and_eq_true] at hcond
      have hs := isStr_spec hcond.1
      obtain ⟨hu8, hz⟩ := isU8_spec hcond.2
      split at h
      · rename_i s'
        simp only [Option.some.injEq, Prod.mk.injEq] at h
        obtain ⟨rfl, rfl, rfl⟩ := h
        have h1 := hc.1
        simp only [ck] at h1
        rw [hx.cInv]
        have hrun := run_bytes_of_string (P := P) w s d e s' hs hd hu8
        have hcap := grownCap_ge w s'.size 0 e
        have hsz : (bytesRow s' (grownCap w s'.size 0 e)).size = grownCap w s'.size 0 e := by
          simp [bytesRow]
          have : s'.data.size = s'.size := rfl
          omega
        have hb : ∀ j, j < (byts (sb s')).length → (bytesRow s' (grownCap w s'.size 0 e)).getD j undef = .int .u8 ((sb s').getD j 0).toNat := by
          intro j hj
          have hj' : j < (sb s').length := by simpa [byts] using hj
          rw [bytesRow_getD _ _ _ hj']
          simp [List.getD, hj']
        have hpush := hh.push (B := ⟨e, false, byts (sb s')⟩) (w' := w.drew.alloc (.cells (bytesRow s' (grownCap w s'.size 0 e)) e ((bytesRow s' (grownCap w s'.size 0 e)).size, (bytesRow s' (grownCap w s'.size 0 e)).size + 1)))
          ⟨rfl, rfl, rfl, rfl⟩ ⟨fun off ho hf => (by simp only at hf; omega), fun hx => absurd (hcond.2.symm.trans hx) (by simp), fun hx => absurd (hcond.2.symm.trans hx) (by simp)⟩ (by rw [hsz]; simp only [byts, List.length_map]; rw [sb_size]; exact hcap)
          (by intro j hj; rw [hb j hj]; rfl)
          (by
            intro j hj
            rw [hb j hj]
            have hj' : j < (sb s').length := by simpa [byts] using hj
            show VR P w ι false ((byts (sb s')).getD j .any) _
            rw [byts_getD _ _ hj']
            have : (sb s').getD j 0 = (sb s')[j] := by simp [List.getD, hj']
            rw [this]
            exact .c)
        refine ⟨_, _, _, hrun, hpush.1, hpush.2, ?_, fun g hg => (pushed_drew w _).old hg⟩
        have e0 : (⟨w.heap.size, 0, none⟩ : Addr) = ⟨w.heap.size, 0 * P.cellsOf e, none⟩ := by simp
        rw [e0, sb_size]
        exact .slAt (by simp) (pushed_drew w _).new hcap (by rw [hsz, hz]; omega) (grownCap_le_maxLen w s'.size 0 e (by rw [sb_size] at h1; simp only [maxLen]; omega))
      · simp at h
    · simp at h
  · split at h
    · rename_i e he
      obtain ⟨hs, hz0, _⟩ := elemOf_spec he
      split at h
      · rename_i hcond
        simp only [Bool.and_eq_true] at hcond
        have hd := isStr_spec hcond.1
        obtain ⟨hu8, hz⟩ := isU8_spec hcond.2
        split at h
        · rename_i b off n
          split at h
          · rename_i B hb
            split at h
            · rename_i hBe
              simp only [Option.some.injEq, Prod.mk.injEq] at h
              obtain ⟨rfl, rfl, rfl⟩ := h
              obtain ⟨c1, c2, _⟩ := hc
              simp only [ck] at c1 c2
              have hl : ((B.cells.drop off).take n).length = n := by simp; omega
              rcases Nat.eq_zero_or_pos n with hn | hn
              · subst hn
                obtain ⟨a, cap, rfl, _⟩ := hx.slShape (hh.notDead hb)
                exact ⟨_, w, ι, run_bytes_str (ι := ι) (o := true) (us := fun _ => undef) hs hu8 hd hl c2 (.inl rfl), Ext.refl _ _, hh, .c, rfl, rfl⟩
              · obtain ⟨g, cap, cur, fz, hg, hcur, hn2, hs2, hm, rfl⟩ := hx.slPlace (hh.live hb) hn
                obtain ⟨cur', fz', hcur', _, hlen, hone, hrel, hcell⟩ := (hh.live hb).cells hg hcur
                rw [hcur] at hcur'; cases hcur'
                rw [hBe, hz, Nat.mul_one]
                refine ⟨_, w, ι, run_bytes_str (ι := ι) (o := B.op) (us := fun j => cur.getD (off + j) undef) hs hu8 hd hl c2 (.inr ⟨g, off, rfl, fun j hj => hcell _ (by omega), fun j hj => ?_⟩), Ext.refl _ _, hh, .c, rfl, rfl⟩
                rw [take_getD _ _ _ hj, drop_getD]
                exact hrel _ (by omega)
            · simp at h
          · simp at h
        · rename_i s' n l
          split at h
          · rename_i hs1
            simp only [Option.some.injEq, Prod.mk.injEq] at h
            obtain ⟨rfl, rfl, rfl⟩ := h
            obtain ⟨cl, c1, _⟩ := hc
            simp only [ck] at cl c1
            subst hs1
            cases hx with
            | fsZero => exact ⟨_, w, ι, run_bytes_str (ι := ι) (o := true) (us := fun _ => undef) hs hu8 hd rfl c1 (.inl rfl), Ext.refl _ _, hh, .c, rfl, rfl⟩
            | fs hn hl hg hno hcl ho hr =>
              exact ⟨_, w, ι, run_bytes_str hs hu8 hd cl c1 (.inr ⟨_, _, rfl, fun j hj => hcl j (by omega), fun j hj => hr j (by omega)⟩), Ext.refl _ _, hh, .c, rfl, rfl⟩
          · simp at h
        · simp only [Option.some.injEq, Prod.mk.injEq] at h
          obtain ⟨rfl, rfl, rfl⟩ := h
          rw [hx.cInv]
          exact ⟨_, w, ι, run_bytes_str (ι := ι) (l := []) (o := true) (us := fun _ => undef) hs hu8 hd rfl (by decide) (.inl rfl), Ext.refl _ _, hh, .c, rfl, rfl⟩
        · simp at h
      · simp at h
    · simp at h

theorem fillA_ok {o : Bool} (hh : HpRel P w ι hp) (size : Nat) :
    ∀ (parts : List (Nat × AV)) (vparts : List (Nat × Value)) (cells out : List AV) (cur : Array Value),
      parts.length = vparts.length → (∀ k, k < parts.length → ∃ i a v, parts[k]? = some (i, a) ∧ vparts[k]? = some (i, v) ∧ VR P w ι o a v) → cells.length = cur.size →
      (∀ j, j < cells.length → (cur.getD j undef).oneCell' = true) → (∀ j, j < cells.length → VR P w ι o (cells.getD j .any) (cur.getD j undef)) →
      fillA hp (fun i => some (mulS i size, size)) cells parts = some out →
      ∃ cur', Instr.fill (fun i => some (i * size, size)) cur vparts = some cur' ∧ out.length = cur'.size ∧ cur'.size = cur.size ∧ (∀ j, j < out.length → (cur'.getD j undef).oneCell' = true) ∧ ∀ j, j < out.length → VR P w ι o (out.getD j .any) (cur'.getD j undef)
  | [], [], cells, out, cur, _, _, hl, h1, hr, h => by
    simp only [fillA, Option.some.injEq] at h
    subst h
    exact ⟨cur, rfl, hl, rfl, h1, hr⟩
  | [], _ :: _, _, _, _, hlen, _, _, _, _, _ => by simp at hlen
  | _ :: _, [], _, _, _, hlen, _, _, _, _, _ => by simp at hlen
  | (i, a) :: rest, (i', v) :: vrest, cells, out, cur, hlen, hp', hl, h1, hr, h => by
    obtain ⟨i0, a0, v0, e1, e2, hav⟩ := hp' 0 (by simp)
    simp only [List.getElem?_cons_zero, Option.some.injEq, Prod.mk.injEq] at e1 e2
    obtain ⟨ei, ea⟩ := e1
    obtain ⟨ei', ev⟩ := e2
    have e3 : i = i' := ei.trans ei'.symm
    subst e3
    rw [← ea, ← ev] at hav
    clear ei ea ei' ev
    simp only [fillA] at h
    split at h
    · simp at h
    · rename_i cs hcs
      split at h
      · rename_i hfit
        obtain ⟨c1, c2, c3, c4⟩ := cellsOf_rel hh hav hcs
        rw [mulS_eq] at hfit h
        have hfold : ∀ (vs : List Value) (k : Nat) (c : Array Value), i * size + k + vs.length ≤ c.size →
            (vs.zipIdx k).foldl (fun cs (x : Value × Nat) => cs.setIfInBounds (i * size + x.2) x.1) c = (c.toList.take (i * size + k) ++ vs ++ c.toList.drop (i * size + k + vs.length)).toArray := by
          intro vs
          induction vs with
          | nil => intro k c _; simp
          | cons x xs ih =>
            intro k c hk
            simp only [List.length_cons] at hk
            simp only [List.zipIdx_cons, List.foldl_cons]
            rw [ih (k + 1) _ (by simp; omega)]
            congr 1
            have e := list_seg_step c.toList (i * size + k) x xs (by simp; omega)
            simpa [Array.toList_setIfInBounds, Nat.add_assoc] using e
        have hvl : v.cells.toList.length = size := by simpa using c1
        have hfit2 : i * size + v.cells.toList.length ≤ cur.size := by rw [hvl]; omega
        have hf := hfold v.cells.toList 0 cur (by rw [Nat.add_zero]; exact hfit2)
        simp only [Nat.add_zero] at hf
        have hz : v.cells.zipIdx.foldl (fun cs (x : Value × Nat) => cs.setIfInBounds (i * size + x.2) x.1) cur = (cur.toList.take (i * size) ++ v.cells.toList ++ cur.toList.drop (i * size + v.cells.toList.length)).toArray := by
          rw [← hf, ← Array.foldl_toList, Array.toList_zipIdx]
        have hcl : i * size + cs.length ≤ cells.length := by rw [c2]; exact hfit
        have hal := spliceA_length cells cs (i * size) hcl
        rw [c2] at hal
        have hss := splice_size cur v.cells.toList (i * size) hfit2
        obtain ⟨cur', f1, f2, f3, f4, f5⟩ := fillA_ok hh size rest vrest _ out _ (by simpa using hlen)
          (fun k hk => by simpa using hp' (k + 1) (by simpa using hk)) (by rw [hal, hss]; exact hl)
          (by
            intro j hj
            rw [hal] at hj
            rw [splice_getD _ _ _ _ hfit2, toList_getD]
            split
            · exact h1 j hj
            · split
              · exact c3 _ (by omega)
              · exact h1 j hj)
          (by
            intro j hj
            rw [hal] at hj
            have e := spliceA_getD cells cs (i * size) j hcl
            rw [c2] at e
            rw [splice_getD _ _ _ _ hfit2, toList_getD, e, hvl]
            split
            · exact hr j hj
            · split
              · exact c4 _ (by omega)
              · exact hr j hj) h
        refine ⟨cur', ?_, f2, f3.trans hss, f4, f5⟩
        simp only [Instr.fill]
        rw [if_neg (by simp [c1]; omega)]
        rw [hz]
        exact f1
      · simp at h

omit [Gv] in
theorem cellsOf_length {hp : Heap} {s : Nat} {a : AV} {cs : List AV} (h : a.cellsOf hp s = some cs) : cs.length = s := by
  unfold AV.cellsOf at h
  repeat' split at h
  all_goals first
    | (simp only [reduceCtorEq] at h; done)
    | (simp only [Option.some.injEq] at h
       subst h
       first
         | assumption
         | (rename_i hs; simpa using hs.symm)
         | (rename_i hs; simpa using hs.1)
         | (rename_i hs; simpa using hs))

omit [Gv] in
theorem seqFill_fill {hp : Heap} {place : Nat → Option (Nat × Nat)} : ∀ (parts : List (Nat × AV)) (off : Nat) (out cells : List AV), seqFill hp place off parts = some out → off + out.length ≤ cells.length →
    fillA hp place cells parts = some (cells.take off ++ out ++ cells.drop (off + out.length))
  | [], off, out, cells, h, _ => by
    simp only [seqFill, Option.some.injEq] at h
    subst h
    simp [fillA]
  | (i, v) :: r, off, out, cells, h, hl => by
    unfold seqFill at h
    split at h
    · rename_i o s hp1
      split at h
      · rename_i ho
        subst ho
        split at h
        · rename_i cs hcs
          split at h
          · rename_i l hrest
            simp only [Option.some.injEq] at h
            subst h
            have hlen := cellsOf_length hcs
            simp only [List.length_append] at hl
            unfold fillA
            rw [hp1]
            simp only [hcs]
            rw [if_pos (by omega)]
            have e1 : (cells.take o ++ cs ++ cells.drop (o + s)).length = cells.length := by simp; omega
            have ih := seqFill_fill r (o + s) l (cells.take o ++ cs ++ cells.drop (o + s)) hrest (by rw [e1]; omega)
            rw [ih]
            have e2 : (cells.take o ++ cs ++ cells.drop (o + s)).take (o + s) = cells.take o ++ cs := by
              rw [List.take_append_of_le_length (by simp; omega), List.take_of_length_le (by simp; omega)]
            have e3 : (cells.take o ++ cs ++ cells.drop (o + s)).drop (o + s + l.length) = cells.drop (o + (cs ++ l).length) := by
              rw [List.drop_append]
              have h1 : (cells.take o ++ cs).length = o + s := by simp; omega
              rw [List.drop_of_length_le (by omega), List.nil_append, h1, List.drop_drop]
              congr 1
              simp
              omega
            rw [e2, e3]
            simp
          · simp at h
        · simp at h
      · simp at h
    · simp at h

omit [Gv] in
theorem fillQ_fillA {hp : Heap} {place : Nat → Option (Nat × Nat)} {cells cs : List AV} {parts : List (Nat × AV)} (h : fillQ hp place cells parts = some cs) : fillA hp place cells parts = some cs := by
  unfold fillQ at h
  split at h
  · rename_i l hl
    split at h
    · rename_i hlen
      simp only [Option.some.injEq] at h
      subst h
      rw [seqFill_fill parts 0 l cells hl (by omega)]
      simp [List.drop_of_length_le (Nat.le_of_eq hlen.symm)]
    · exact h
  · exact h

omit [Gv] in
theorem replicate_flat {α : Type} (n : Nat) (x : α) : List.replicate n x = (List.replicate n [x]).flatten := by
  induction n with
  | zero => simp
  | succ n ih => simp [List.replicate_succ, ← ih]

omit [Gv] in
theorem repl_spec (n : Nat) (z : Array Value) : repl n (z.toList.map AV.c) = (List.range (n * z.size)).map fun i => AV.c (z[i % z.size]!) := by
  have gen : ∀ (l : List AV), repl n l = (List.replicate n l).flatten := by
    intro l
    unfold repl
    split
    · exact replicate_flat _ _
    · rfl
  rw [gen]
  clear gen
  induction n with
  | zero => simp
  | succ n ih =>
    rw [List.replicate_succ', List.flatten_append, ih]
    simp only [List.flatten_cons, List.flatten_nil, List.append_nil]
    rw [Nat.succ_mul, List.range_add, List.map_append, List.map_map]
    congr 1
    apply List.ext_getElem
    · simp
    · intro i h1 h2
      simp at h1
      simp [Nat.add_mod, Nat.mod_eq_of_lt h1, h1]

omit [Gv] in
theorem zeroOf_spec {e : TypeId} {l : List AV} (h : zeroOf P e = some l) : ∃ i z, P.info? e = some i ∧ i.zero = some z ∧ l = z.cells.toList.map AV.c ∧ i.size = P.cellsOf e ∧ i.bytes = P.bytesOf e ∧ ∀ v ∈ z.cells.toList, v.oneCell' = true := by
  unfold zeroOf at h
  cases hi : P.info? e with
  | none => simp [hi] at h
  | some i =>
    simp only [hi, Option.bind_some] at h
    cases hz : i.zero with
    | none => simp [hz] at h
    | some z =>
      simp only [hz, Option.bind_some] at h
      split at h
      · rename_i hall
        simp only [Option.some.injEq] at h
        exact ⟨i, z, rfl, hz, h.symm, by simp [Program.cellsOf, hi], by simp [Program.bytesOf, hi], List.all_eq_true.1 hall⟩
      · simp at h

omit [Gv] in
theorem repl_rel (n : Nat) (z : Array Value) (o : Bool) (h1 : ∀ v ∈ z.toList, v.oneCell' = true) :
    (repl n (z.toList.map AV.c)).length = ((Array.range (n * z.size)).map (z[· % z.size]!)).size ∧
    (∀ j, j < (repl n (z.toList.map AV.c)).length → ((((Array.range (n * z.size)).map (z[· % z.size]!)).getD j undef).oneCell' = true)) ∧
    ∀ j, j < (repl n (z.toList.map AV.c)).length → VR P w ι o ((repl n (z.toList.map AV.c)).getD j .any) (((Array.range (n * z.size)).map (z[· % z.size]!)).getD j undef) := by
  rw [repl_spec]
  have hlen : ((List.range (n * z.size)).map fun i => AV.c (z[i % z.size]!)).length = n * z.size := by simp
  have get : ∀ j, j < n * z.size → ((Array.range (n * z.size)).map (z[· % z.size]!)).getD j undef = z[j % z.size]! := by
    intro j hj
    rw [← toList_getD]
    simp [List.getD, hj]
  refine ⟨by simp, ?_, ?_⟩
  · intro j hj
    rw [hlen] at hj
    rw [get j hj]
    have hz : 0 < z.size := Nat.pos_of_ne_zero (by rintro h; rw [h] at hj; omega)
    have hm := Nat.mod_lt j hz
    rw [getElem!_pos z (j % z.size) hm]
    exact h1 _ (by simp)
  · intro j hj
    rw [hlen] at hj
    rw [get j hj]
    have : ((List.range (n * z.size)).map fun i => AV.c (z[i % z.size]!)).getD j .any = .c (z[j % z.size]!) := by simp [List.getD, hj]
    rw [this]
    exact .c

theorem build_ok {t e : TypeId} {len : Nat} {vparts : Array (Nat × Value)} {parts : List (Nat × AV)} {z cs : List AV} (hh : HpRel P w ι hp) (he : elemOf P t = some e) (hz : zeroOf P e = some z) (hzl : z.length = P.cellsOf e) (hsm : len * P.cellsOf e ≤ 16777216)
    (hlen : parts.length = vparts.toList.length) (hp' : ∀ k, k < parts.length → ∃ i a v, parts[k]? = some (i, a) ∧ vparts.toList[k]? = some (i, v) ∧ VR P w ι true a v)
    (h : fillA hp (fun i => some (mulS i (P.cellsOf e), P.cellsOf e)) (repl len z) parts = some cs) :
    ∃ v w' ι', (Instr.buildSlice t len vparts).run P w = .ok v w' ∧ Ext w ι w' ι' ∧ HpRel P w' ι' (hp ++ [some ⟨e, !AV.closedAll cs, cs⟩]) ∧ VR P w' ι' true (.sl hp.length 0 len) v ∧ ∀ g, g < w.heap.size → w'.heap[g]? = w.heap[g]? := by
  obtain ⟨ht, hz0, _⟩ := elemOf_spec he
  obtain ⟨i, zv, hi, hzv, rfl, hsz, _, hone⟩ := zeroOf_spec hz
  have hzs : zv.cells.size = P.cellsOf e := by simpa using hzl
  obtain ⟨r1, r2, r3⟩ := repl_rel (P := P) (w := w) (ι := ι) len zv.cells true hone
  obtain ⟨cur', f1, f2, f3, f4, f5⟩ := fillA_ok hh (P.cellsOf e) parts vparts.toList _ cs _ hlen hp' r1 r2 r3 h
  have hcur : cur'.size = len * P.cellsOf e := by rw [f3]; simp [hzs]
  have hpush := hh.push (B := ⟨e, !AV.closedAll cs, cs⟩) (pushed_alloc w (.cells cur' e)) (rowOK0 fun _ j hj => f4 j (by rw [f2]; exact hj)) (Nat.le_of_eq f2) f4 (fun j hj => by
    cases hcl : AV.closedAll cs with
    | true => simp only [Bool.not_true]; exact (f5 j hj).shut (closed_getD cs hcl j hj)
    | false => simp only [Bool.not_false]; exact f5 j hj)
  refine ⟨.slice (some ⟨w.heap.size, 0, none⟩) len len, _, _, ?_, hpush.1, hpush.2, ?_, fun g hg => (pushed_alloc w _).old hg⟩
  · have hbig : ¬ (16777216 < len * P.cellsOf e) := by omega
    rw [hzs] at f1
    unfold Instr.buildSlice
    have hr0 : Array.range 0 = #[] := rfl
    by_cases h0 : len * P.cellsOf e = 0
    · have f1' : Instr.fill (fun i => some (i * P.cellsOf e, P.cellsOf e)) #[] vparts.toList = some cur' := by rw [h0] at f1; simpa [hr0] using f1
      simp [run_underlying ht, sizeOf, typeInfo, hi, hsz, h0, hr0, f1', newRow]
    · simp [run_underlying ht, sizeOf, typeInfo, zeroValue, hi, hzv, hsz, hbig, h0, hzs, f1, newRow]
  · have e0 : (⟨w.heap.size, 0, none⟩ : Addr) = ⟨w.heap.size, 0 * P.cellsOf e, none⟩ := by simp
    rw [e0]
    have hml : len ≤ maxLen := by
      have := Nat.le_mul_of_pos_right len hz0
      simp only [maxLen]; omega
    exact .slAt (by simp) (pushed_alloc w _).new (Nat.le_refl _) (by rw [hcur]; simp) hml

theorem make_ok {t e : TypeId} {l c : Int} {k k' : IntKind} {z : List AV} (hh : HpRel P w ι hp) (he : elemOf P t = some e) (hz : zeroOf P e = some z) (hzl : z.length = P.cellsOf e)
    (h0 : 0 ≤ l) (h1 : l ≤ c) (h2 : c * (P.bytesOf e : Int) ≤ 140737488355328) (h3 : c ≤ 4611686018427387904) :
    ∃ v w' ι', (Instr.makeSlice t (.int k l) (.int k' c)).run P w = .ok v w' ∧ Ext w ι w' ι' ∧ HpRel P w' ι' (hp ++ [some ⟨e, false, repl l.toNat z⟩]) ∧ VR P w' ι' true (.sl hp.length 0 l.toNat) v ∧ ∀ g, g < w.heap.size → w'.heap[g]? = w.heap[g]? := by
  obtain ⟨ht, hz0, _⟩ := elemOf_spec he
  obtain ⟨i, zv, hi, hzv, rfl, hsz, hby, hone⟩ := zeroOf_spec hz
  have hzs : zv.cells.size = P.cellsOf e := by simpa using hzl
  obtain ⟨r1, r2, r3⟩ := repl_rel (P := P) (w := w) (ι := ι) c.toNat zv.cells false hone
  have hcsz : ((Array.range (c.toNat * zv.cells.size)).map (zv.cells[· % zv.cells.size]!)).size = c.toNat * P.cellsOf e := by simp [hzs]
  have hpre : ∀ j, j < (repl l.toNat (zv.cells.toList.map AV.c)).length → j < (repl c.toNat (zv.cells.toList.map AV.c)).length ∧ (repl l.toNat (zv.cells.toList.map AV.c)).getD j .any = (repl c.toNat (zv.cells.toList.map AV.c)).getD j .any := by
    intro j hj
    rw [repl_spec] at hj ⊢
    rw [repl_spec]
    have hj' : j < l.toNat * zv.cells.size := by simpa using hj
    have hle : l.toNat * zv.cells.size ≤ c.toNat * zv.cells.size := Nat.mul_le_mul_right _ (by omega)
    refine ⟨by simp; omega, ?_⟩
    have hj2 : j < c.toNat * zv.cells.size := by omega
    simp [List.getD, hj', hj2]
  have hpush := hh.push (B := ⟨e, false, repl l.toNat (zv.cells.toList.map AV.c)⟩) (pushed_alloc w (.cells ((Array.range (c.toNat * zv.cells.size)).map (zv.cells[· % zv.cells.size]!)) e)) (rowOK0 fun _ j hj => r2 j (by rw [r1]; exact hj))
    (by
      rw [hcsz]
      simp only [repl_spec, List.length_map, List.length_range, hzs]
      exact Nat.mul_le_mul_right _ (by omega))
    (fun j hj => r2 j (hpre j hj).1) (fun j hj => by rw [(hpre j hj).2]; exact r3 j (hpre j hj).1)
  refine ⟨.slice (some ⟨w.heap.size, 0, none⟩) l.toNat c.toNat, _, _, ?_, hpush.1, hpush.2, ?_, fun g hg => (pushed_alloc w _).old hg⟩
  · have w1 : IntKind.i64.wrap l = l := IntWalk.i64_in l (by omega)
    have w2 : IntKind.i64.wrap c = c := IntWalk.i64_in c (by omega)
    have h4 : ¬ (c < 0) := by omega
    have h5 : ¬ (l < 0) := by omega
    have h6 : ¬ (c < l) := by omega
    have h7 : ¬ (281474976710656 < (i.bytes : Int) * c) := by rw [hby, Int.mul_comm]; omega
    unfold Instr.makeSlice
    have hr0 : Array.range 0 = #[] := rfl
    by_cases hc0 : c.toNat * P.cellsOf e = 0
    · have hc1 : c.toNat * zv.cells.size = 0 := by rw [hzs]; exact hc0
      simp [run_underlying ht, asInt, asIntOf, typeInfo, hi, w1, w2, h4, h5, h6, h7, sizeOf, hsz, hc0, hc1, hr0, newRow]
    · simp [run_underlying ht, asInt, asIntOf, typeInfo, hi, w1, w2, h4, h5, h6, h7, sizeOf, zeroValue, hzv, hsz, hc0, hzs, newRow]
  · have e0 : (⟨w.heap.size, 0, none⟩ : Addr) = ⟨w.heap.size, 0 * P.cellsOf e, none⟩ := by simp
    rw [e0]
    exact .slAt (by simp) (pushed_alloc w _).new (by omega) (by rw [hcsz]; simp) (by simp only [maxLen]; omega)

omit [Gv] in
theorem take_getDV (l : List Value) (k j : Nat) (h : j < k) : (l.take k).getD j undef = l.getD j undef := by simp [List.getD, h]

omit [Gv] in
theorem set_self {hp : Heap} {b : Nat} {x : Option Blk} (h : hp[b]? = some x) : List.set hp b x = hp := by
  apply List.ext_getElem?
  intro k
  rw [List.getElem?_set]
  split
  · rename_i hk
    subst hk
    rw [if_pos (List.getElem?_eq_some_iff.1 h).1, h]
  · rfl

theorem copy_ok {t u ty : TypeId} {d x : AV} {vd vx : Value} {cks : List Ck} {av : AV} {cmd : Cmd} (hh : HpRel P w ι hp) (hd : VR P w ι true d vd) (hx : VR P w ι true x vx) (h : copyA P hp t d x = some (cks, av, cmd)) (hc : Ck.conj cks) :
    ∃ v w' ι', (Builtin.copy_ #[t, u] ty #[vd, vx]).run P w = .ok v w' ∧ Ext w ι w' ι' ∧ HpRel P w' ι' (cmd.run hp) ∧ VR P w' ι' true av v ∧ CmdPost w ι w' ι' cmd := by
  unfold copyA at h
  split at h
  · rename_i e he
    obtain ⟨ht, hz0, i, hi, hsz⟩ := elemOf_spec he
    split at h
    · rename_i b off n
      split at h
      · rename_i B ck1 m op l hb hnews
        split at h
        · rename_i hcond
          simp only [Option.some.injEq, Prod.mk.injEq] at h
          obtain ⟨rfl, rfl, rfl⟩ := h
          obtain ⟨c1, c2, _⟩ := conj_append hc
          simp only [ck, mulS_eq] at c2
          obtain ⟨hBe, hop⟩ := hcond
          subst hBe
          obtain ⟨us, hn⟩ := newsOf_ok hh hx hnews c1
          have hbl : b < hp.length := (List.getElem?_eq_some_iff.1 hb).1
          have hkn : min n m ≤ m := Nat.min_le_right _ _
          have hpre := hn.pre (min n m) hkn
          have hmin : Nat.min m n = min n m := Nat.min_comm _ _
          simp only [mulS_eq]
          rcases Nat.eq_zero_or_pos n with hn0 | hn0
          · subst hn0
            obtain ⟨a, cap, rfl, _⟩ := hd.slShape (hh.notDead hb)
            have hself : List.set hp b (some { B with cells := B.cells.take (off * P.cellsOf B.e) ++ l.take (min 0 m * P.cellsOf B.e) ++ B.cells.drop (off * P.cellsOf B.e + min 0 m * P.cellsOf B.e) }) = hp := by
              have : ({ B with cells := B.cells.take (off * P.cellsOf B.e) ++ l.take (min 0 m * P.cellsOf B.e) ++ B.cells.drop (off * P.cellsOf B.e + min 0 m * P.cellsOf B.e) } : Blk) = B := by
                simp
              rw [this]
              exact set_self hb
            refine ⟨.int .i64 0, w, ι, ?_, Ext.refl _ _, ?_, ?_, trivial⟩
            · have hp0 : (Builtin.firstCells i.size 0 vx).run P w = .ok #[] w := by
                have := hn.pre 0 (Nat.zero_le _)
                rw [hsz]
                simpa using this
              cases a <;> simp [Builtin.copy_, run_underlying ht, hn.len w, sizeOf, typeInfo, hi, hp0, storeCells, goInt]
            · show HpRel P w ι (List.set hp b _)
              rw [hself]; exact hh
            · simp only [Nat.zero_min]; exact .c
          · obtain ⟨g, cap, cur, fz, hg, hcur, hn2, hs, hm, rfl⟩ := hd.slPlace (hh.live hb) hn0
            obtain ⟨cur', fz', hcur', hfz, hlen, hone, hrel, hcell⟩ := (hh.live hb).cells hg hcur
            rw [hcur] at hcur'; cases hcur'
            have hkmul : min n m * P.cellsOf B.e ≤ n * P.cellsOf B.e := Nat.mul_le_mul_right _ (Nat.min_le_left _ _)
            have hkmul2 : min n m * P.cellsOf B.e ≤ m * P.cellsOf B.e := Nat.mul_le_mul_right _ hkn
            have hsum : off * P.cellsOf B.e + n * P.cellsOf B.e ≤ B.cells.length := by rw [← Nat.add_mul, Nat.add_comm]; exact c2
            have hul : (us.take (min n m * P.cellsOf B.e)).length = min n m * P.cellsOf B.e := by rw [List.length_take, hn.ul]; omega
            have hll : (l.take (min n m * P.cellsOf B.e)).length = min n m * P.cellsOf B.e := by rw [List.length_take, hn.ll]; omega
            have hfit : off * P.cellsOf B.e + (us.take (min n m * P.cellsOf B.e)).length ≤ cur.size := by rw [hul]; omega
            have hmem : ∀ v ∈ us.take (min n m * P.cellsOf B.e), v.oneCell' = true := by
              intro v hv
              have hv' := List.mem_of_mem_take hv
              obtain ⟨j, hj, rfl⟩ := List.getElem_of_mem hv'
              have := hn.one j hj
              simpa [List.getD, hj] using this
            have hst := run_storeCells_fz (P := P) g (off * P.cellsOf B.e) B.e fz (us.take (min n m * P.cellsOf B.e)) 0 cur w hcur hfz.in_ (by simpa using hfit) hmem
            simp only [Nat.add_zero] at hst
            have hput := put_setRow w g cur (cur.toList.take (off * P.cellsOf B.e) ++ us.take (min n m * P.cellsOf B.e) ++ cur.toList.drop (off * P.cellsOf B.e + (us.take (min n m * P.cellsOf B.e)).length)).toArray B.e fz hcur
            have hss := splice_size cur (us.take (min n m * P.cellsOf B.e)) (off * P.cellsOf B.e) hfit
            have hcl : off * P.cellsOf B.e + (l.take (min n m * P.cellsOf B.e)).length ≤ B.cells.length := by rw [hll]; omega
            have hal := spliceA_length B.cells (l.take (min n m * P.cellsOf B.e)) (off * P.cellsOf B.e) hcl
            have hsp := spliceA_getD B.cells (l.take (min n m * P.cellsOf B.e)) (off * P.cellsOf B.e)
            rw [hll] at hal hsp hcl
            have hw := hh.write (B := { B with cells := B.cells.take (off * P.cellsOf B.e) ++ l.take (min n m * P.cellsOf B.e) ++ B.cells.drop (off * P.cellsOf B.e + min n m * P.cellsOf B.e) }) hg hbl hcur hput hss (hfz.same hss (fun hu8 => splice_one hfit (hfz.one hu8) (fun j hj => by
                rw [hul] at hj
                rw [take_getDV _ _ _ (by omega)]
                exact hn.one _ (by rw [hn.ul]; omega)))) (by rw [hss]; simp only [hal]; exact hlen)
              (by
                intro j hj
                simp only [hal] at hj
                rw [splice_getD _ _ _ _ hfit]
                split
                · exact hone j hj
                · split
                  · rename_i h1 h2
                    rw [hul] at h2
                    rw [take_getDV _ _ _ (by omega)]
                    exact hn.one _ (by rw [hn.ul]; omega)
                  · exact hone j hj)
              (by
                intro j hj
                simp only [hal] at hj
                rw [splice_getD _ _ _ _ hfit, hsp j hcl, hul]
                split
                · exact hrel j hj
                · split
                  · rename_i h1 h2
                    rw [take_getDV _ _ _ (by omega), take_getD _ _ _ (by omega)]
                    have := hn.rel (j - off * P.cellsOf B.e) (by rw [hn.ul]; omega)
                    refine this.weak (fun ho => ?_)
                    rcases hop with h3 | h3
                    · exact h3
                    · rw [h3] at ho; cases ho
                  · exact hrel j hj)
            refine ⟨.int .i64 (min n m : Nat), _, ι, ?_, hw.1, hw.2, .c, trivial⟩
            have hulc : (us.take (min n m * P.cellsOf B.e)).toArray.toList = us.take (min n m * P.cellsOf B.e) := by simp
            simp [Builtin.copy_, run_underlying ht, hn.len w, sizeOf, typeInfo, hi, hsz, hmin, hpre, hst, goInt]
        · simp at h
      · simp at h
    · simp at h
  · simp at h

theorem ustr_ok {t u ty : TypeId} {p x : AV} {vp vx : Value} {cks : List Ck} {av : AV} {cmd : Cmd} (hh : HpRel P w ι hp) (hd : VR P w ι true p vp) (hx : VR P w ι true x vx) (h : ustrA P hp t p x = some (cks, av, cmd)) (hc : Ck.conj cks) :
    ∃ v w' ι', (Builtin.unsafeString_ #[t, u] ty #[vp, vx]).run P w = .ok v w' ∧ Ext w ι w' ι' ∧ HpRel P w' ι' (cmd.run hp) ∧ VR P w' ι' true av v ∧ CmdPost w ι w' ι' cmd := by
  unfold ustrA at h
  split at h
  · rename_i e hu
    split at h
    · rename_i hu8
      obtain ⟨hu8', hz⟩ := isU8_spec hu8
      split at h
      · rename_i b n
        split at h
        · rename_i B hb
          split at h
          · rename_i hBe
            simp only [Option.some.injEq, Prod.mk.injEq] at h
            obtain ⟨rfl, rfl, rfl⟩ := h
            obtain ⟨c1, c2, c3, c4, _⟩ := hc
            simp only [ck] at c1 c2 c3 c4
            have hbl : b < hp.length := (List.getElem?_eq_some_iff.1 hb).1
            rw [hx.cInv]
            cases hd with
            | ptDead hd => exact absurd hd (hh.notDead hb)
            | pt hg hh0 =>
              rename_i g _ _ _
              obtain ⟨cur, fz, hcur, hfz, hlen, hone, hrel, hcell⟩ := (hh.live hb).cells hg hh0
              obtain ⟨k, rfl⟩ := Int.eq_ofNat_of_zero_le (by omega : 0 ≤ n)
              have hkl : (unbyts (B.cells.take k)).length = k := by simp [unbyts]; omega
              have hcells : ∀ j x, (unbyts (B.cells.take k))[j]? = some x → w.cell? ((⟨g, 0, none⟩ : Addr).add j) = some (.int .u8 x.toNat) := by
                intro j x hj
                have hjk : j < k := by have := (List.getElem?_eq_some_iff.1 hj).1; omega
                have hjl : j < B.cells.length := by omega
                have hadd : (⟨g, 0, none⟩ : Addr).add j = ⟨g, j, none⟩ := by unfold Addr.add; split <;> simp_all
                rw [hadd, hcell j (by omega)]
                have e1 : (B.cells.take k).getD j .any = B.cells.getD j .any := take_getD _ _ _ hjk
                have e2 : (B.cells.take k).getD j .any ∈ B.cells.take k := by
                  have : (B.cells.take k).getD j .any = (B.cells.take k)[j]'(by rw [List.length_take]; omega) := by simp [List.getD, hjk, hjl]
                  rw [this]; exact List.getElem_mem _
                have hby := List.all_eq_true.1 (show (B.cells.take k).all isByte = true from by simp only [Int.toNat_natCast] at c3; exact c3) _ e2
                rw [e1] at hby
                have := (isByte_val hby (hrel j hjl)).1
                rw [this]
                have : x = unbyte (B.cells.getD j .any) := by
                  simp [unbyts, hjk, hjl] at hj
                  rw [← hj]
                  simp [List.getD, hjl]
                rw [this]
              have hrun := Lib.run_unsafeString_row (P := P) (w := w) t u ty e hu hz g cur.size (by simp [World.shape?, hcur, hBe]) (unbyts (B.cells.take k)) (by intro h0; rw [h0] at hkl; simp at hkl; omega) (by rw [hkl]; omega) (by rw [hkl]; omega) hcells
              rw [hkl] at hrun
              obtain ⟨e1, h1⟩ := hh.killPut (w' := w.freeze ⟨g, 0, none⟩ k) hg hbl (by unfold World.freeze; split <;> rfl) (by unfold World.freeze; split <;> rfl) (by unfold World.freeze; split <;> rfl) (by unfold World.freeze; split <;> simp)
                (fun j hj => by
                  unfold World.freeze
                  split
                  · rfl
                  · simp only [Array.getElem?_modify]
                    rw [if_neg (fun h => hj h.symm)])
              have hstr : str (unbyts (B.cells.take k)) = .string ⟨(unbyts (B.cells.take k)).toArray⟩ := rfl
              refine ⟨_, _, _, hrun, e1, h1, ?_, trivial⟩
              rw [← hstr]
              simp only [Int.toNat_natCast]
              exact .c
          · simp at h
        · simp at h
      · simp at h
    · simp at h
  · simp at h

end Go.Proofs.Ytljgmgbjfjhjmaa
