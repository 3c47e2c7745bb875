/- The relation between abstract values and the model's, and that it is kept as memory grows and as owned blocks are written. -/
import Derived.Test.YtljgmgbjfjhjmaaLevA
namespace Go.Proofs.Ytljgmgbjfjhjmaa
open Go.RowKit
set_option linter.unusedSimpArgs false
set_option linter.unusedVariables false

inductive Loc where
  | fresh
  | dead
  | virt
  | here (g : Nat)

/-- Where the owned blocks lie, and which blocks are another's, not to be touched and not to be told of. -/
structure Pl where
  at_ : Nat → Loc
  hid : Nat → Prop

instance : CoeFun Pl (fun _ => Nat → Loc) := ⟨Pl.at_⟩

/-- A block that nobody owns. -/
def Pl.un (ι : Pl) (g : Nat) : Prop := (∀ b, ι b ≠ .here g) ∧ ¬ ι.hid g

/-- The value v is what a tells, in world w, the owned blocks lying as ι says; o: may a refer to owned blocks? -/
inductive VR (P : Program) (w : World) (ι : Pl) : Bool → AV → Value → Prop
  | any {o v} : VR P w ι o .any v
  | c {o v} : VR P w ι o (.c v) v
  | slDead {b off n v} : ι b = .dead → VR P w ι true (.sl b off n) v
  | slZero {b off a} : VR P w ι true (.sl b off 0) (.slice a 0 0)
  | slAt {b off n g cap cur e fz} : ι b = .here g → w.heap[g]? = some (.cells cur e fz) → n ≤ cap → (off + cap) * P.cellsOf e = cur.size → cap ≤ maxLen →
      VR P w ι true (.sl b off n) (.slice (some ⟨g, off * P.cellsOf e, none⟩) n cap)
  | ptDead {b off v} : ι b = .dead → VR P w ι true (.pt b off) v
  | pt {b off g cur e fz} : ι b = .here g → w.heap[g]? = some (.cells cur e fz) → VR P w ι true (.pt b off) (.pointer (some ⟨g, off, none⟩))
  | itrDead {b v} : ι b = .dead → VR P w ι true (.itr b) v
  | itr {b g} : ι b = .here g → VR P w ι true (.itr b) (.pointer (some ⟨g, 0, none⟩))
  | fsZero {o s a cap} : VR P w ι o (.fs s 0 []) (.slice a 0 cap)
  | fs {o s n l g off cap} {us : Nat → Value} : n ≤ cap → l.length ≤ n * s → g < w.heap.size → ι.un g → (∀ j, j < l.length → w.cell? ⟨g, off + j, none⟩ = some (us j)) →
      (∀ j, j < l.length → (us j).oneCell' = true) → (∀ j, j < l.length → VR P w ι false (l.getD j .any) (us j)) → VR P w ι o (.fs s n l) (.slice (some ⟨g, off, none⟩) n cap)
  | fp {o l g off} {us : Nat → Value} : g < w.heap.size → ι.un g → (∀ j, j < l.length → w.cell? ⟨g, off + j, none⟩ = some (us j)) →
      (∀ j, j < l.length → (us j).oneCell' = true) → (∀ j, j < l.length → VR P w ι false (l.getD j .any) (us j)) → VR P w ι o (.fp l) (.pointer (some ⟨g, off, none⟩))
  | ag {o l cs} : l.length = cs.size → (∀ j, j < l.length → (cs.getD j undef).oneCell' = true) → (∀ j, j < l.length → VR P w ι o (l.getD j .any) (cs.getD j undef)) → VR P w ι o (.ag l) (.agg cs)
  | tu {o l cs} : l.length = cs.size → (∀ j, j < l.length → VR P w ι o (l.getD j .any) (cs.getD j undef)) → VR P w ι o (.tu l) (.tuple cs)
  | fn {o f l cs} : l.length = cs.size → (∀ j, j < l.length → VR P w ι o (l.getD j .any) (cs.getD j undef)) → VR P w ι o (.fn f l) (.func (.func f) #[] cs)

/-- A row as it lies: nothing of it is frozen; but for rows of bytes nothing behind it either, and all its cells are plain. -/
structure RowOK (P : Program) (e : TypeId) (cur : Array Value) (fz : Nat × Nat) : Prop where
  in_ : ∀ off, off < cur.size → ¬ (fz.1 ≤ off ∧ off < fz.2)
  out : isU8 P e = false → ∀ off, ¬ (fz.1 ≤ off ∧ off < fz.2)
  one : isU8 P e = false → ∀ off, off < cur.size → (cur.getD off undef).oneCell' = true

theorem rowOK0 {P : Program} {e : TypeId} {cur : Array Value} (h : isU8 P e = false → ∀ off, off < cur.size → (cur.getD off undef).oneCell' = true) : RowOK P e cur (0, 0) :=
  ⟨fun off _ hh => by simp at hh, fun _ off hh => by simp at hh, h⟩

theorem RowOK.same {P : Program} {e : TypeId} {cur cur' : Array Value} {fz : Nat × Nat} (h : RowOK P e cur fz) (hs : cur'.size = cur.size) (h1 : isU8 P e = false → ∀ off, off < cur'.size → (cur'.getD off undef).oneCell' = true) : RowOK P e cur' fz :=
  ⟨fun off ho => h.in_ off (by omega), h.out, h1⟩

/-- A block as it lies. -/
def BlkOK (P : Program) (w : World) (ι : Pl) (b : Nat) (B : Blk) : Prop :=
  (ι b = .virt ∧ B.cells = []) ∨
  (∃ g cur fz, ι b = .here g ∧ w.heap[g]? = some (.cells cur B.e fz) ∧ RowOK P B.e cur fz ∧ B.cells.length ≤ cur.size ∧
    (∀ j, j < B.cells.length → (cur.getD j undef).oneCell' = true) ∧ ∀ j, j < B.cells.length → VR P w ι B.op (B.cells.getD j .any) (cur.getD j undef)) ∨
  ∃ g s pos, ι b = .here g ∧ B.cells = [.iter s pos] ∧ w.heap[g]? = some (.stringIter ⟨⟨s⟩⟩ pos) ∧ B.op = true

def SlotOK (P : Program) (w : World) (ι : Pl) (b : Nat) : Option (Option Blk) → Prop
  | none => ι b = .fresh
  | some none => ι b = .dead
  | some (some B) => BlkOK P w ι b B

structure HpRel [Gv] (P : Program) (w : World) (ι : Pl) (hp : Heap) : Prop where
  blk : ∀ b, SlotOK P w ι b hp[b]?
  inj : ∀ b b' g, ι b = .here g → ι b' = .here g → b = b'
  nohid : ∀ b g, ι b = .here g → ¬ ι.hid g
  hlt : ∀ g, ι.hid g → g < w.heap.size
  gl : ∀ g l, Gv.gv g = some l → VR P w ι false (.fp l) (.pointer (some ⟨g, 0, none⟩))

structure Ext (w : World) (ι : Pl) (w' : World) (ι' : Pl) : Prop where
  os : w'.os = w.os
  tape : w'.tape = w.tape
  output : w'.output = w.output
  size : w.heap.size ≤ w'.heap.size
  hid : ι'.hid = ι.hid
  hkeep : ∀ g, g < w.heap.size → ι.hid g → w'.heap[g]? = w.heap[g]?
  blk : ∀ g, g < w.heap.size → ι.un g → w'.heap[g]? = w.heap[g]? ∧ ι'.un g
  own : ∀ b g, ι b = .here g → ι' b = .dead ∨ (ι' b = .here g ∧ ∀ cur e fz, w.heap[g]? = some (.cells cur e fz) → ∃ cur' fz', w'.heap[g]? = some (.cells cur' e fz') ∧ cur'.size = cur.size)
  dead : ∀ b, ι b = .dead → ι' b = .dead

theorem Ext.refl (w : World) (ι : Pl) : Ext w ι w ι :=
  ⟨rfl, rfl, rfl, Nat.le_refl _, rfl, fun _ _ _ => rfl, fun _ _ h => ⟨rfl, h⟩, fun _ _ h => .inr ⟨h, fun cur _ fz h => ⟨cur, fz, h, rfl⟩⟩, fun _ h => h⟩

theorem Ext.trans {w w' w'' : World} {ι ι' ι'' : Pl} (h : Ext w ι w' ι') (k : Ext w' ι' w'' ι'') : Ext w ι w'' ι'' := by
  refine ⟨k.os.trans h.os, k.tape.trans h.tape, k.output.trans h.output, Nat.le_trans h.size k.size, k.hid.trans h.hid, fun g hg hh => (k.hkeep g (Nat.lt_of_lt_of_le hg h.size) (by rw [h.hid]; exact hh)).trans (h.hkeep g hg hh), ?_, ?_, fun b hb => k.dead b (h.dead b hb)⟩
  · intro g hg hn
    obtain ⟨e1, n1⟩ := h.blk g hg hn
    obtain ⟨e2, n2⟩ := k.blk g (Nat.lt_of_lt_of_le hg h.size) n1
    exact ⟨e2.trans e1, n2⟩
  · intro b g hb
    rcases h.own b g hb with hd | ⟨h1, hs⟩
    · exact .inl (k.dead b hd)
    · rcases k.own b g h1 with hd | ⟨h2, hs2⟩
      · exact .inl hd
      · refine .inr ⟨h2, fun cur e fz hc => ?_⟩
        obtain ⟨c1, f1, e1, z1⟩ := hs cur e fz hc
        obtain ⟨c2, f2, e2, z2⟩ := hs2 c1 e f1 e1
        exact ⟨c2, f2, e2, z2.trans z1⟩

/-- A draw changes nothing that is told. -/
theorem Ext.drew (w : World) (ι : Pl) : Ext w ι w.drew ι := ⟨rfl, rfl, rfl, Nat.le_refl _, rfl, fun _ _ _ => rfl, fun _ _ h => ⟨rfl, h⟩, fun _ _ h => .inr ⟨h, fun cur _ fz h => ⟨cur, fz, h, rfl⟩⟩, fun _ h => h⟩

theorem cell_block {w : World} {g off : Nat} {v : Value} (h : w.cell? ⟨g, off, none⟩ = some v) : g < w.heap.size := World.block_lt_of_cell? w ⟨g, off, none⟩ h

theorem Ext.cell {w w' : World} {ι ι' : Pl} (h : Ext w ι w' ι') {g off : Nat} {v : Value} (hn : ι.un g) (hc : w.cell? ⟨g, off, none⟩ = some v) : w'.cell? ⟨g, off, none⟩ = some v := by
  have hb := (h.blk g (cell_block hc) hn).1
  rw [← hc]
  exact World.cell?_of_block (a := ⟨g, off, none⟩) hb

theorem VR.mono {P : Program} {w w' : World} {ι ι' : Pl} (h : Ext w ι w' ι') {o : Bool} {a : AV} {v : Value} (hv : VR P w ι o a v) : VR P w' ι' o a v := by
  induction hv with
  | any => exact .any
  | c => exact .c
  | slDead hd => exact .slDead (h.dead _ hd)
  | slZero => exact .slZero
  | slAt hg hh hn hs hm =>
    rcases h.own _ _ hg with hd | ⟨h1, h2⟩
    · exact .slDead hd
    · obtain ⟨cur', fz', hc, hz⟩ := h2 _ _ _ hh
      exact .slAt h1 hc hn (by rw [hz]; exact hs) hm
  | ptDead hd => exact .ptDead (h.dead _ hd)
  | pt hg hh =>
    rcases h.own _ _ hg with hd | ⟨h1, h2⟩
    · exact .ptDead hd
    · obtain ⟨cur', fz', hc, _⟩ := h2 _ _ _ hh
      exact .pt h1 hc
  | itrDead hd => exact .itrDead (h.dead _ hd)
  | itr hg =>
    rcases h.own _ _ hg with hd | ⟨h1, _⟩
    · exact .itrDead hd
    · exact .itr h1
  | fsZero => exact .fsZero
  | fs hn hl hg hno hc h1 _ ih => exact .fs hn hl (Nat.lt_of_lt_of_le hg h.size) (h.blk _ hg hno).2 (fun j hj => h.cell hno (hc j hj)) h1 ih
  | fp hg hno hc h1 _ ih => exact .fp (Nat.lt_of_lt_of_le hg h.size) (h.blk _ hg hno).2 (fun j hj => h.cell hno (hc j hj)) h1 ih
  | ag hl h1 _ ih => exact .ag hl h1 ih
  | tu hl _ ih => exact .tu hl ih
  | fn hl _ ih => exact .fn hl ih

/-- What refers to no owned block may stand where nothing may. -/
theorem VR.shut {P : Program} {w : World} {ι : Pl} {o : Bool} {a : AV} {v : Value} (hv : VR P w ι o a v) : a.closed = true → VR P w ι false a v := by
  have all : ∀ (l : List AV), AV.closedAll l = true → ∀ j, j < l.length → (l.getD j .any).closed = true := by
    intro l
    induction l with
    | nil => intro _ j hj; simp at hj
    | cons a r ih =>
      intro h j hj
      simp only [AV.closedAll, Bool.and_eq_true] at h
      cases j with
      | zero => simpa using h.1
      | succ j => simpa using ih h.2 j (by simpa using hj)
  induction hv with
  | any => intro _; exact .any
  | c => intro _; exact .c
  | slDead | slZero | slAt | ptDead | pt | itrDead | itr => intro h; simp [AV.closed] at h
  | fsZero => intro _; exact .fsZero
  | fs hn hl hg hno hc h1 hr _ => intro _; exact .fs hn hl hg hno hc h1 hr
  | fp hg hno hc h1 hr _ => intro _; exact .fp hg hno hc h1 hr
  | ag hl h1 _ ih => intro h; exact .ag hl h1 fun j hj => ih j hj (all _ (by simpa [AV.closed] using h) j hj)
  | tu hl _ ih => intro h; exact .tu hl fun j hj => ih j hj (all _ (by simpa [AV.closed] using h) j hj)
  | fn hl _ ih => intro h; exact .fn hl fun j hj => ih j hj (all _ (by simpa [AV.closed] using h) j hj)

/-- What refers to nothing may stand anywhere. -/
theorem VR.open_ {P : Program} {w : World} {ι : Pl} {o : Bool} {a : AV} {v : Value} (hv : VR P w ι o a v) : VR P w ι true a v := by
  induction hv with
  | any => exact .any
  | c => exact .c
  | slDead h => exact .slDead h
  | slZero => exact .slZero
  | slAt a b c d e => exact .slAt a b c d e
  | ptDead h => exact .ptDead h
  | pt h k => exact .pt h k
  | itrDead h => exact .itrDead h
  | itr h => exact .itr h
  | fsZero => exact .fsZero
  | fs hn hl hg hno hc h1 hr _ => exact .fs hn hl hg hno hc h1 hr
  | fp hg hno hc h1 hr _ => exact .fp hg hno hc h1 hr
  | ag hl h1 _ ih => exact .ag hl h1 ih
  | tu hl _ ih => exact .tu hl ih
  | fn hl _ ih => exact .fn hl ih

theorem VR.weak {P : Program} {w : World} {ι : Pl} {o o' : Bool} {a : AV} {v : Value} (hv : VR P w ι o a v) (h : o = true → o' = true) : VR P w ι o' a v := by
  cases o' with
  | true => exact hv.open_
  | false => cases o with
    | false => exact hv
    | true => exact absurd (h rfl) (by simp)

def upd (ι : Pl) (b : Nat) (x : Loc) : Pl := { ι with at_ := fun k => if k = b then x else ι k }

@[simp] theorem upd_hid (ι : Pl) (b : Nat) (x : Loc) : (upd ι b x).hid = ι.hid := rfl

@[simp] theorem upd_same (ι : Pl) (b : Nat) (x : Loc) : upd ι b x b = x := by simp [upd]
theorem upd_other {ι : Pl} {b k : Nat} {x : Loc} (h : k ≠ b) : upd ι b x k = ι k := by simp [upd, h]

theorem SlotOK.ext {P : Program} {w w' : World} {ι ι' : Pl} (h : Ext w ι w' ι') {b : Nat} (hb : ι' b = ι b) (hg : ∀ g, ι b = .here g → w'.heap[g]? = w.heap[g]?) {s : Option (Option Blk)} (k : SlotOK P w ι b s) :
    SlotOK P w' ι' b s := by
  match s, k with
  | none, k => exact hb.trans k
  | some none, k => exact hb.trans k
  | some (some B), k =>
    rcases k with ⟨k1, k2⟩ | ⟨g, cur, fz, k1, k2, k3, k4, k5, k6⟩ | ⟨g, s, pos, k1, k2, k3, k4⟩
    · exact .inl ⟨hb.trans k1, k2⟩
    · exact .inr (.inl ⟨g, cur, fz, hb.trans k1, (hg g k1).trans k2, k3, k4, k5, fun j hj => (k6 j hj).mono h⟩)
    · exact .inr (.inr ⟨g, s, pos, hb.trans k1, k2, (hg g k1).trans k3, k4⟩)

/-- What a world becomes by one block more at its end. -/
structure Pushed (w w' : World) (o : Obj) : Prop where
  os : w'.os = w.os
  tape : w'.tape = w.tape
  output : w'.output = w.output
  heap : w'.heap = w.heap.push o

theorem Pushed.size {w w' : World} {o : Obj} (h : Pushed w w' o) : w'.heap.size = w.heap.size + 1 := by rw [h.heap]; simp
theorem Pushed.old {w w' : World} {o : Obj} (h : Pushed w w' o) {g : Nat} (hg : g < w.heap.size) : w'.heap[g]? = w.heap[g]? := by
  rw [h.heap, Array.getElem?_push, if_neg (Nat.ne_of_lt hg)]
theorem Pushed.new {w w' : World} {o : Obj} (h : Pushed w w' o) : w'.heap[w.heap.size]? = some o := by rw [h.heap]; simp

variable [Gv]

theorem HpRel.lt {P : Program} {w : World} {ι : Pl} {hp : Heap} (h : HpRel P w ι hp) {b g : Nat} (hb : ι b = .here g) : g < w.heap.size := by
  have k := h.blk b
  match hs : hp[b]?, k with
  | none, k => rw [show ι b = .fresh from k] at hb; cases hb
  | some none, k => rw [show ι b = .dead from k] at hb; cases hb
  | some (some B), k =>
    rcases k with ⟨k1, _⟩ | ⟨g', cur, fz, k1, k2, _⟩ | ⟨g', s, pos, k1, _, k2, _⟩
    · rw [k1] at hb; cases hb
    · rw [k1] at hb; cases hb
      exact (Array.getElem?_eq_some_iff.1 k2).1
    · rw [k1] at hb; cases hb
      exact (Array.getElem?_eq_some_iff.1 k2).1

theorem HpRel.freshLen {P : Program} {w : World} {ι : Pl} {hp : Heap} (h : HpRel P w ι hp) : ι hp.length = .fresh := by
  have k := h.blk hp.length
  rw [List.getElem?_eq_none (Nat.le_refl _)] at k
  exact k

/-- A world that grew by unowned blocks alone. -/
theorem HpRel.ext {P : Program} {w w' : World} {ι : Pl} {hp : Heap} (h : HpRel P w ι hp) (hos : w'.os = w.os) (ht : w'.tape = w.tape) (ho : w'.output = w.output) (hsz : w.heap.size ≤ w'.heap.size)
    (hb : ∀ g, g < w.heap.size → w'.heap[g]? = w.heap[g]?) : Ext w ι w' ι ∧ HpRel P w' ι hp := by
  have e : Ext w ι w' ι := ⟨hos, ht, ho, hsz, rfl, fun g hg _ => hb g hg, fun g hg hn => ⟨hb g hg, hn⟩, fun b g hbg => .inr ⟨hbg, fun cur _ fz hc => ⟨cur, fz, (hb g (h.lt hbg)).trans hc, rfl⟩⟩, fun _ h => h⟩
  exact ⟨e, fun b => (h.blk b).ext e rfl (fun g hg => hb g (h.lt hg)), h.inj, h.nohid, fun g hg => Nat.lt_of_lt_of_le (h.hlt g hg) hsz, fun g l hg => (h.gl g l hg).mono e⟩

omit [Gv] in
theorem getElem?_snoc (hp : Heap) (B : Option Blk) {b : Nat} (h : b ≠ hp.length) : (hp ++ [B])[b]? = hp[b]? := by
  by_cases hlt : b < hp.length
  · rw [List.getElem?_append_left hlt]
  · rw [List.getElem?_append_right (by omega), List.getElem?_eq_none (by simp; omega), List.getElem?_eq_none (by omega)]

omit [Gv] in
theorem getElem?_snoc_same (hp : Heap) (B : Option Blk) : (hp ++ [B])[hp.length]? = some B := by
  rw [List.getElem?_append_right (Nat.le_refl _)]
  simp

/-- A new block that is owned. -/
theorem HpRel.push {P : Program} {w w' : World} {ι : Pl} {hp : Heap} (h : HpRel P w ι hp) {cur : Array Value} {fz : Nat × Nat} {B : Blk} (hw : Pushed w w' (.cells cur B.e fz))
    (hfz : RowOK P B.e cur fz) (hl : B.cells.length ≤ cur.size) (h1 : ∀ j, j < B.cells.length → (cur.getD j undef).oneCell' = true)
    (hr : ∀ j, j < B.cells.length → VR P w ι B.op (B.cells.getD j .any) (cur.getD j undef)) :
    Ext w ι w' (upd ι hp.length (.here w.heap.size)) ∧ HpRel P w' (upd ι hp.length (.here w.heap.size)) (hp ++ [some B]) := by
  have hf := h.freshLen
  have e : Ext w ι w' (upd ι hp.length (.here w.heap.size)) := by
    refine ⟨hw.os, hw.tape, hw.output, by rw [hw.size]; omega, rfl, fun g hg _ => hw.old hg, ?_, ?_, ?_⟩
    · intro g hg hn
      refine ⟨hw.old hg, fun b hb => ?_, hn.2⟩
      by_cases hbl : b = hp.length
      · subst hbl; simp at hb; omega
      · rw [upd_other hbl] at hb; exact hn.1 b hb
    · intro b g hb
      have hbl : b ≠ hp.length := by rintro rfl; rw [hf] at hb; cases hb
      exact .inr ⟨by rw [upd_other hbl]; exact hb, fun cur _ fz hc => ⟨cur, fz, (hw.old (h.lt hb)).trans hc, rfl⟩⟩
    · intro b hb
      have hbl : b ≠ hp.length := by rintro rfl; rw [hf] at hb; cases hb
      rw [upd_other hbl]; exact hb
  refine ⟨e, fun b => ?_, ?_, ?_, fun g hg => by rw [hw.size]; have := h.hlt g hg; omega, fun g l hg => (h.gl g l hg).mono e⟩
  · by_cases hbl : b = hp.length
    · subst hbl
      rw [getElem?_snoc_same]
      exact .inr (.inl ⟨w.heap.size, cur, fz, by simp, hw.new, hfz, hl, h1, fun j hj => (hr j hj).mono e⟩)
    · rw [getElem?_snoc _ _ hbl]
      exact (h.blk b).ext e (upd_other hbl) (fun g hg => hw.old (h.lt hg))
  · intro b b' g hb hb'
    by_cases h1 : b = hp.length <;> by_cases h2 : b' = hp.length
    · omega
    · subst h1; rw [upd_other h2] at hb'; simp at hb; have := h.lt hb'; omega
    · subst h2; rw [upd_other h1] at hb; simp at hb'; have := h.lt hb; omega
    · rw [upd_other h1] at hb; rw [upd_other h2] at hb'; exact h.inj b b' g hb hb'
  · intro b g hb hh
    by_cases h1 : b = hp.length
    · subst h1; simp at hb; have := h.hlt g hh; omega
    · rw [upd_other h1] at hb; exact h.nohid b g hb hh

/-- What goes over a text, laid anew. -/
theorem HpRel.pushIter {P : Program} {w w' : World} {ι : Pl} {hp : Heap} (h : HpRel P w ι hp) {s : List UInt8} {pos : Nat} {B : Blk} (hB : B.cells = [.iter s pos]) (hop : B.op = true) (hw : Pushed w w' (.stringIter ⟨⟨s⟩⟩ pos)) :
    Ext w ι w' (upd ι hp.length (.here w.heap.size)) ∧ HpRel P w' (upd ι hp.length (.here w.heap.size)) (hp ++ [some B]) := by
  have hf := h.freshLen
  have e : Ext w ι w' (upd ι hp.length (.here w.heap.size)) := by
    refine ⟨hw.os, hw.tape, hw.output, by rw [hw.size]; omega, rfl, fun g hg _ => hw.old hg, ?_, ?_, ?_⟩
    · intro g hg hn
      refine ⟨hw.old hg, fun b hb => ?_, hn.2⟩
      by_cases hbl : b = hp.length
      · subst hbl; simp at hb; omega
      · rw [upd_other hbl] at hb; exact hn.1 b hb
    · intro b g hb
      have hbl : b ≠ hp.length := by rintro rfl; rw [hf] at hb; cases hb
      exact .inr ⟨by rw [upd_other hbl]; exact hb, fun cur _ fz hc => ⟨cur, fz, (hw.old (h.lt hb)).trans hc, rfl⟩⟩
    · intro b hb
      have hbl : b ≠ hp.length := by rintro rfl; rw [hf] at hb; cases hb
      rw [upd_other hbl]; exact hb
  refine ⟨e, fun b => ?_, ?_, ?_, fun g hg => by rw [hw.size]; have := h.hlt g hg; omega, fun g l hg => (h.gl g l hg).mono e⟩
  · by_cases hbl : b = hp.length
    · subst hbl
      rw [getElem?_snoc_same]
      exact .inr (.inr ⟨w.heap.size, s, pos, by simp, hB, hw.new, hop⟩)
    · rw [getElem?_snoc _ _ hbl]
      exact (h.blk b).ext e (upd_other hbl) (fun g hg => hw.old (h.lt hg))
  · intro b b' g hb hb'
    by_cases h1 : b = hp.length <;> by_cases h2 : b' = hp.length
    · omega
    · subst h1; rw [upd_other h2] at hb'; simp at hb; have := h.lt hb'; omega
    · subst h2; rw [upd_other h1] at hb; simp at hb'; have := h.lt hb; omega
    · rw [upd_other h1] at hb; rw [upd_other h2] at hb'; exact h.inj b b' g hb hb'
  · intro b g hb hh
    by_cases h1 : b = hp.length
    · subst h1; simp at hb; have := h.hlt g hh; omega
    · rw [upd_other h1] at hb; exact h.nohid b g hb hh

/-- A block of which nothing lies anywhere. -/
theorem HpRel.pushVirt {P : Program} {w : World} {ι : Pl} {hp : Heap} (h : HpRel P w ι hp) {B : Blk} (hB : B.cells = []) :
    Ext w ι w (upd ι hp.length .virt) ∧ HpRel P w (upd ι hp.length .virt) (hp ++ [some B]) := by
  have hf := h.freshLen
  have e : Ext w ι w (upd ι hp.length .virt) := by
    refine ⟨rfl, rfl, rfl, Nat.le_refl _, rfl, fun _ _ _ => rfl, ?_, ?_, ?_⟩
    · intro g hg hn
      refine ⟨rfl, fun b hb => ?_, hn.2⟩
      by_cases hbl : b = hp.length
      · subst hbl; simp at hb
      · rw [upd_other hbl] at hb; exact hn.1 b hb
    · intro b g hb
      have hbl : b ≠ hp.length := by rintro rfl; rw [hf] at hb; cases hb
      exact .inr ⟨by rw [upd_other hbl]; exact hb, fun cur _ fz hc => ⟨cur, fz, hc, rfl⟩⟩
    · intro b hb
      have hbl : b ≠ hp.length := by rintro rfl; rw [hf] at hb; cases hb
      rw [upd_other hbl]; exact hb
  refine ⟨e, fun b => ?_, ?_, ?_, h.hlt, fun g l hg => (h.gl g l hg).mono e⟩
  · by_cases hbl : b = hp.length
    · subst hbl
      rw [getElem?_snoc_same]
      exact .inl ⟨by simp, hB⟩
    · rw [getElem?_snoc _ _ hbl]
      exact (h.blk b).ext e (upd_other hbl) (fun g hg => rfl)
  · intro b b' g hb hb'
    by_cases h1 : b = hp.length <;> by_cases h2 : b' = hp.length
    · omega
    · subst h1; simp at hb
    · subst h2; simp at hb'
    · rw [upd_other h1] at hb; rw [upd_other h2] at hb'; exact h.inj b b' g hb hb'
  · intro b g hb hh
    by_cases h1 : b = hp.length
    · subst h1; simp at hb
    · rw [upd_other h1] at hb; exact h.nohid b g hb hh

omit [Gv] in
theorem List.getElem?_set_kill (hp : Heap) (b k : Nat) : (List.set hp b none)[k]? = if k = b ∧ k < hp.length then some none else hp[k]? := by
  rw [List.getElem?_set]
  by_cases h : b = k
  · subst h
    by_cases hl : b < hp.length
    · simp [hl]
    · simp [hl]
  · rw [if_neg h, if_neg (by omega)]

/-- A block is given up. -/
theorem HpRel.kill {P : Program} {w : World} {ι : Pl} {hp : Heap} (h : HpRel P w ι hp) {b : Nat} (hb : b < hp.length) :
    Ext w ι w (upd ι b .dead) ∧ HpRel P w (upd ι b .dead) (List.set hp b none) := by
  have e : Ext w ι w (upd ι b .dead) := by
    refine ⟨rfl, rfl, rfl, Nat.le_refl _, rfl, fun _ _ _ => rfl, ?_, ?_, ?_⟩
    · intro g hg hn
      refine ⟨rfl, fun k hk => ?_, hn.2⟩
      by_cases hbl : k = b
      · subst hbl; simp at hk
      · rw [upd_other hbl] at hk; exact hn.1 k hk
    · intro k g hk
      by_cases hbl : k = b
      · subst hbl; exact .inl (by simp)
      · exact .inr ⟨by rw [upd_other hbl]; exact hk, fun cur _ fz hc => ⟨cur, fz, hc, rfl⟩⟩
    · intro k hk
      by_cases hbl : k = b
      · subst hbl; simp
      · rw [upd_other hbl]; exact hk
  refine ⟨e, fun k => ?_, ?_, ?_, h.hlt, fun g l hg => (h.gl g l hg).mono e⟩
  · rw [List.getElem?_set_kill]
    by_cases hbl : k = b
    · subst hbl
      rw [if_pos ⟨rfl, hb⟩]
      show upd ι k .dead k = .dead
      simp
    · rw [if_neg (by omega)]
      exact (h.blk k).ext e (upd_other hbl) (fun g hg => rfl)
  · intro k k' g hk hk'
    by_cases h1 : k = b <;> by_cases h2 : k' = b
    · omega
    · subst h1; simp at hk
    · subst h2; simp at hk'
    · rw [upd_other h1] at hk; rw [upd_other h2] at hk'; exact h.inj k k' g hk hk'
  · intro k g hk hh
    by_cases h1 : k = b
    · subst h1; simp at hk
    · rw [upd_other h1] at hk; exact h.nohid k g hk hh

/-- What a world becomes by other cells in block g. -/
structure Put (w w' : World) (g : Nat) (cur' : Array Value) (e : TypeId) (fz : Nat × Nat) : Prop where
  os : w'.os = w.os
  tape : w'.tape = w.tape
  output : w'.output = w.output
  size : w'.heap.size = w.heap.size
  here : w'.heap[g]? = some (.cells cur' e fz)
  other : ∀ k, k ≠ g → w'.heap[k]? = w.heap[k]?

omit [Gv] in
theorem put_setRow (w : World) (g : Nat) (cur cur' : Array Value) (e : TypeId) (fz : Nat × Nat) (hg : w.heap[g]? = some (.cells cur e fz)) : Put w (w.setRow g cur') g cur' e fz :=
  ⟨rfl, rfl, rfl, by simp [World.setRow], setRow_heap w g cur cur' e fz hg, fun k hk => setRow_other w g k cur' hk⟩

/-- An owned block is written. -/
theorem HpRel.write {P : Program} {w w' : World} {ι : Pl} {hp : Heap} (h : HpRel P w ι hp) {b g : Nat} {cur cur' : Array Value} {fz : Nat × Nat} {B : Blk} (hb : ι b = .here g) (hbl : b < hp.length)
    (hg : w.heap[g]? = some (.cells cur B.e fz)) (hw : Put w w' g cur' B.e fz) (hsz : cur'.size = cur.size)
    (hfz : RowOK P B.e cur' fz) (hl : B.cells.length ≤ cur'.size) (h1 : ∀ j, j < B.cells.length → (cur'.getD j undef).oneCell' = true)
    (hr : ∀ j, j < B.cells.length → VR P w ι B.op (B.cells.getD j .any) (cur'.getD j undef)) :
    Ext w ι w' ι ∧ HpRel P w' ι (List.set hp b (some B)) := by
  have e : Ext w ι w' ι := by
    refine ⟨hw.os, hw.tape, hw.output, by rw [hw.size]; omega, rfl, fun k hk hh => hw.other k (by rintro rfl; exact h.nohid b _ hb hh), ?_, ?_, fun _ h => h⟩
    · intro k hk hn
      exact ⟨hw.other k (by rintro rfl; exact hn.1 b hb), hn⟩
    · intro k g' hk
      refine .inr ⟨hk, fun c e f hc => ?_⟩
      by_cases hgg : g' = g
      · subst hgg
        rw [hg] at hc; cases hc
        exact ⟨cur', _, hw.here, hsz⟩
      · exact ⟨c, f, (hw.other g' hgg).trans hc, rfl⟩
  refine ⟨e, fun k => ?_, h.inj, h.nohid, fun g hg => by rw [hw.size]; exact h.hlt g hg, fun g l hg => (h.gl g l hg).mono e⟩
  by_cases hk : k = b
  · subst hk
    rw [List.getElem?_set_self hbl]
    exact .inr (.inl ⟨g, cur', fz, hb, hw.here, hfz, hl, h1, fun j hj => (hr j hj).mono e⟩)
  · rw [List.getElem?_set_ne (Ne.symm hk)]
    exact (h.blk k).ext e rfl (fun g' hg' => hw.other g' (by rintro rfl; exact hk (h.inj _ _ _ hg' hb)))

/-- What goes over a text goes on. -/
theorem HpRel.writeIter {P : Program} {w w' : World} {ι : Pl} {hp : Heap} (h : HpRel P w ι hp) {b g : Nat} {s0 : ByteArray} {pos0 : Nat} {s : List UInt8} {pos : Nat} {B : Blk} (hb : ι b = .here g) (hbl : b < hp.length)
    (hg : w.heap[g]? = some (.stringIter s0 pos0)) (hB : B.cells = [.iter s pos]) (hop : B.op = true) (hos : w'.os = w.os) (ht : w'.tape = w.tape) (ho : w'.output = w.output) (hsz : w'.heap.size = w.heap.size)
    (here : w'.heap[g]? = some (.stringIter ⟨⟨s⟩⟩ pos)) (other : ∀ k, k ≠ g → w'.heap[k]? = w.heap[k]?) :
    Ext w ι w' ι ∧ HpRel P w' ι (List.set hp b (some B)) := by
  have e : Ext w ι w' ι := by
    refine ⟨hos, ht, ho, by rw [hsz]; omega, rfl, fun k hk hh => other k (by rintro rfl; exact h.nohid b _ hb hh), ?_, ?_, fun _ h => h⟩
    · intro k hk hn
      exact ⟨other k (by rintro rfl; exact hn.1 b hb), hn⟩
    · intro k g' hk
      refine .inr ⟨hk, fun c e f hc => ?_⟩
      by_cases hgg : g' = g
      · subst hgg
        rw [hg] at hc; cases hc
      · exact ⟨c, f, (other g' hgg).trans hc, rfl⟩
  refine ⟨e, fun k => ?_, h.inj, h.nohid, fun g hg => by rw [hsz]; exact h.hlt g hg, fun g l hg => (h.gl g l hg).mono e⟩
  by_cases hk : k = b
  · subst hk
    rw [List.getElem?_set_self hbl]
    exact .inr (.inr ⟨g, s, pos, hb, hB, here, hop⟩)
  · rw [List.getElem?_set_ne (Ne.symm hk)]
    exact (h.blk k).ext e rfl (fun g' hg' => other g' (by rintro rfl; exact hk (h.inj _ _ _ hg' hb)))

/-- An owned block is given up, whatever becomes of it. -/
theorem HpRel.killPut {P : Program} {w w' : World} {ι : Pl} {hp : Heap} (h : HpRel P w ι hp) {b g : Nat} (hb : ι b = .here g) (hbl : b < hp.length) (hos : w'.os = w.os) (ht : w'.tape = w.tape) (ho : w'.output = w.output)
    (hsz : w'.heap.size = w.heap.size) (hother : ∀ k, k ≠ g → w'.heap[k]? = w.heap[k]?) : Ext w ι w' (upd ι b .dead) ∧ HpRel P w' (upd ι b .dead) (List.set hp b none) := by
  have e : Ext w ι w' (upd ι b .dead) := by
    refine ⟨hos, ht, ho, by rw [hsz]; omega, rfl, fun k hk hh => hother k (by rintro rfl; exact h.nohid b _ hb hh), ?_, ?_, ?_⟩
    · intro k hk hn
      refine ⟨hother k (by rintro rfl; exact hn.1 b hb), fun i hi => ?_, hn.2⟩
      by_cases hbl : i = b
      · subst hbl; simp at hi
      · rw [upd_other hbl] at hi; exact hn.1 i hi
    · intro k g' hk
      by_cases hbl : k = b
      · subst hbl; exact .inl (by simp)
      · exact .inr ⟨by rw [upd_other hbl]; exact hk, fun c e f hc => ⟨c, f, (hother g' (by rintro rfl; exact hbl (h.inj _ _ _ hk hb))).trans hc, rfl⟩⟩
    · intro k hk
      by_cases hbl : k = b
      · subst hbl; simp
      · rw [upd_other hbl]; exact hk
  refine ⟨e, fun k => ?_, ?_, ?_, fun g hg => by rw [hsz]; exact h.hlt g hg, fun g l hg => (h.gl g l hg).mono e⟩
  · rw [List.getElem?_set_kill]
    by_cases hk : k = b
    · subst hk
      rw [if_pos ⟨rfl, hbl⟩]
      show upd ι k .dead k = .dead
      simp
    · rw [if_neg (by omega)]
      exact (h.blk k).ext e (upd_other hk) (fun g' hg' => hother g' (by rintro rfl; exact hk (h.inj _ _ _ hg' hb)))
  · intro k k' g' hk hk'
    by_cases h1 : k = b <;> by_cases h2 : k' = b
    · omega
    · subst h1; simp at hk
    · subst h2; simp at hk'
    · rw [upd_other h1] at hk; rw [upd_other h2] at hk'; exact h.inj k k' g' hk hk'
  · intro k g' hk hh
    by_cases h1 : k = b
    · subst h1; simp at hk
    · rw [upd_other h1] at hk; exact h.nohid k g' hk hh

/-- An owned block is given up, and lives on under a new number, other cells in it. -/
theorem HpRel.moveIn {P : Program} {w w' : World} {ι : Pl} {hp : Heap} (h : HpRel P w ι hp) {b g : Nat} {cur' : Array Value} {fz : Nat × Nat} {B : Blk} (hb : ι b = .here g) (hbl : b < hp.length)
    (hw : Put w w' g cur' B.e fz)
    (hfz : RowOK P B.e cur' fz) (hl : B.cells.length ≤ cur'.size) (h1 : ∀ j, j < B.cells.length → (cur'.getD j undef).oneCell' = true)
    (hr : ∀ j, j < B.cells.length → VR P w ι B.op (B.cells.getD j .any) (cur'.getD j undef)) :
    Ext w ι w' (upd (upd ι b .dead) hp.length (.here g)) ∧ HpRel P w' (upd (upd ι b .dead) hp.length (.here g)) (List.set hp b none ++ [some B]) := by
  have hf := h.freshLen
  have hne : b ≠ hp.length := by omega
  have at_ : ∀ k, k ≠ b → k ≠ hp.length → upd (upd ι b .dead) hp.length (.here g) k = ι k := fun k h1 h2 => by rw [upd_other h2, upd_other h1]
  have atb : upd (upd ι b .dead) hp.length (.here g) b = .dead := by rw [upd_other hne]; simp
  have e : Ext w ι w' (upd (upd ι b .dead) hp.length (.here g)) := by
    refine ⟨hw.os, hw.tape, hw.output, by rw [hw.size]; omega, rfl, fun k hk hh => hw.other k (by rintro rfl; exact h.nohid b _ hb hh), ?_, ?_, ?_⟩
    · intro k hk hn
      have hkg : k ≠ g := by rintro rfl; exact hn.1 b hb
      refine ⟨hw.other k hkg, fun i hi => ?_, hn.2⟩
      by_cases h1 : i = hp.length
      · subst h1; simp at hi; exact hkg hi.symm
      · by_cases h2 : i = b
        · subst h2; rw [atb] at hi; cases hi
        · rw [at_ i h2 h1] at hi; exact hn.1 i hi
    · intro i g' hi
      by_cases h2 : i = b
      · subst h2; exact .inl atb
      · have h1 : i ≠ hp.length := by rintro rfl; rw [hf] at hi; cases hi
        refine .inr ⟨by rw [at_ i h2 h1]; exact hi, fun c e f hc => ⟨c, f, (hw.other g' ?_).trans hc, rfl⟩⟩
        rintro rfl
        exact h2 (h.inj _ _ _ hi hb)
    · intro i hi
      by_cases h2 : i = b
      · subst h2; exact atb
      · have h1 : i ≠ hp.length := by rintro rfl; rw [hf] at hi; cases hi
        rw [at_ i h2 h1]; exact hi
  refine ⟨e, fun k => ?_, ?_, ?_, fun g' hg' => by rw [hw.size]; exact h.hlt g' hg', fun g l hg => (h.gl g l hg).mono e⟩
  · by_cases hk : k = hp.length
    · subst hk
      rw [List.getElem?_append_right (by simp)]
      simp only [List.length_set, Nat.sub_self, List.getElem?_cons_zero]
      exact .inr (.inl ⟨g, cur', fz, by simp, hw.here, hfz, hl, h1, fun j hj => (hr j hj).mono e⟩)
    · have hs : (List.set hp b none ++ [some B])[k]? = (List.set hp b none)[k]? := by
        by_cases hlt : k < hp.length
        · rw [List.getElem?_append_left (by simpa using hlt)]
        · rw [List.getElem?_append_right (by simp; omega), List.getElem?_eq_none (by simp; omega), List.getElem?_eq_none (by simp; omega)]
      rw [hs, List.getElem?_set_kill]
      by_cases h2 : k = b
      · subst h2
        rw [if_pos ⟨rfl, hbl⟩]
        exact atb
      · rw [if_neg (by omega)]
        exact (h.blk k).ext e (at_ k h2 hk) (fun g' hg' => hw.other g' (by rintro rfl; exact h2 (h.inj _ _ _ hg' hb)))
  · intro k k' g' hk hk'
    have key : ∀ i, upd (upd ι b .dead) hp.length (.here g) i = .here g' → (i = hp.length ∧ g' = g) ∨ (i ≠ b ∧ ι i = .here g') := by
      intro i hi
      by_cases h1 : i = hp.length
      · subst h1; simp at hi; exact .inl ⟨rfl, hi.symm⟩
      · by_cases h2 : i = b
        · subst h2; rw [atb] at hi; cases hi
        · rw [at_ i h2 h1] at hi; exact .inr ⟨h2, hi⟩
    rcases key k hk with ⟨r1, r2⟩ | ⟨r1, r2⟩ <;> rcases key k' hk' with ⟨s1, s2⟩ | ⟨s1, s2⟩
    · omega
    · subst r2; exact absurd (h.inj _ _ _ s2 hb) s1
    · subst s2; exact absurd (h.inj _ _ _ r2 hb) r1
    · exact h.inj _ _ _ r2 s2
  · intro k g' hk hh
    by_cases h1 : k = hp.length
    · subst h1; simp at hk; subst hk; exact h.nohid b _ hb hh
    · by_cases h2 : k = b
      · subst h2; rw [atb] at hk; cases hk
      · rw [at_ k h2 h1] at hk; exact h.nohid k g' hk hh

/-- An owned block is given up, and a new one laid. -/
theorem HpRel.movePush {P : Program} {w w' : World} {ι : Pl} {hp : Heap} (h : HpRel P w ι hp) {b : Nat} (hbl : b < hp.length) {cur : Array Value} {fz : Nat × Nat} {B : Blk} (hw : Pushed w w' (.cells cur B.e fz))
    (hfz : RowOK P B.e cur fz) (hl : B.cells.length ≤ cur.size) (h1 : ∀ j, j < B.cells.length → (cur.getD j undef).oneCell' = true)
    (hr : ∀ j, j < B.cells.length → VR P w ι B.op (B.cells.getD j .any) (cur.getD j undef)) :
    ∃ ι', ι' hp.length = .here w.heap.size ∧ Ext w ι w' ι' ∧ HpRel P w' ι' (List.set hp b none ++ [some B]) := by
  obtain ⟨e1, k1⟩ := h.kill hbl
  obtain ⟨e2, k2⟩ := k1.push hw hfz hl h1 (fun j hj => (hr j hj).mono e1)
  simp only [List.length_set] at e2 k2
  exact ⟨_, by simp, e1.trans e2, k2⟩

/-- An owned block is given up, and one of which nothing lies anywhere takes its place. -/
theorem HpRel.moveVirt {P : Program} {w : World} {ι : Pl} {hp : Heap} (h : HpRel P w ι hp) {b : Nat} (hbl : b < hp.length) {B : Blk} (hB : B.cells = []) :
    ∃ ι', Ext w ι w ι' ∧ HpRel P w ι' (List.set hp b none ++ [some B]) := by
  obtain ⟨e1, k1⟩ := h.kill hbl
  obtain ⟨e2, k2⟩ := k1.pushVirt hB
  simp only [List.length_set] at e2 k2
  exact ⟨_, e1.trans e2, k2⟩

end Go.Proofs.Ytljgmgbjfjhjmaa
