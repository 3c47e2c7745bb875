/- Words by recursion. -/
import Derived.Test.YteadhhmbhgkojaaAsciiJ
namespace Go.Proofs.Yteadhhmbhgkojaa
open Go.RowKit
set_option linter.unusedVariables false
set_option linter.unusedSimpArgs false

def wgo : List UInt8 → List UInt8 → List (List UInt8)
  | cur, [] => if cur = [] then [] else [cur]
  | cur, x :: r => if blankI x.toNat = true then (if cur = [] then wgo [] r else cur :: wgo [] r) else wgo (cur ++ [x]) r

theorem wcur_nil (l : List UInt8) (i a : Nat) (hi : i ≤ l.length) (ha : a ≤ i) : (l.take i).drop a = [] ↔ ¬ a < i := by
  constructor
  · intro h hc
    have := congrArg List.length h
    simp at this
    omega
  · intro h
    apply List.eq_nil_of_length_eq_zero
    simp
    omega

theorem wgo_at (l : List UInt8) : ∀ i, i ≤ l.length → (wAt l i).1 ≤ i ∧ (wAt l i).2 ++ wgo ((l.take i).drop (wAt l i).1) (l.drop i) = wgo [] l
  | 0, _ => ⟨Nat.le_refl _, by simp [wAt]⟩
  | i + 1, h => by
    obtain ⟨h1, h2⟩ := wgo_at l i (by omega)
    have hd := drop_cons l i (by omega)
    have ht := take_succ_getD l i 0 (by omega)
    have hz : (l.take (i + 1)).drop (i + 1) = [] := by simp
    rw [show wAt l (i + 1) = wStep l i (wAt l i) from rfl]
    generalize wAt l i = x at *
    obtain ⟨a, W⟩ := x
    simp only at h1 h2
    rw [hd] at h2
    have hn := wcur_nil l i a (by omega) h1
    cases hb : blankI (l.getD i 0).toNat with
    | false =>
      rw [show wStep l i (a, W) = (a, W) from if_pos ⟨by omega, hb⟩]
      refine ⟨by simp only; omega, ?_⟩
      rw [wgo, if_neg (by rw [hb]; simp)] at h2
      simp only
      rw [ht, List.drop_append_of_le_length (by simp; omega)]
      exact h2
    | true =>
      rw [show wStep l i (a, W) = (i + 1, if a < i then W ++ [(l.take i).drop a] else W) from if_neg (fun hh => by rw [hb] at hh; exact absurd hh.2 (by decide))]
      refine ⟨Nat.le_refl _, ?_⟩
      rw [wgo, if_pos hb] at h2
      simp only
      rw [hz]
      by_cases hai : a < i
      · rw [if_pos hai]
        rw [if_neg (fun hh => (hn.1 hh) hai)] at h2
        rw [List.append_assoc]
        exact h2
      · rw [if_neg hai]
        rw [if_pos (hn.2 hai)] at h2
        exact h2

theorem words_go (l : List UInt8) : wordsF l = wgo [] l := by
  obtain ⟨h1, h2⟩ := wgo_at l l.length (Nat.le_refl _)
  unfold wordsF
  rw [show wAt l (l.length + 1) = wStep l l.length (wAt l l.length) from rfl]
  generalize wAt l l.length = x at *
  obtain ⟨a, W⟩ := x
  simp only at h1 h2
  rw [show wStep l l.length (a, W) = (l.length + 1, if a < l.length then W ++ [(l.take l.length).drop a] else W) from if_neg (fun hh => absurd hh.1 (Nat.lt_irrefl _))]
  have hn := wcur_nil l l.length a (Nat.le_refl _) h1
  rw [List.drop_length, wgo] at h2
  by_cases hai : a < l.length
  · simp only [if_pos hai]
    rw [if_neg (fun hh => (hn.1 hh) hai)] at h2
    exact h2
  · simp only [if_neg hai]
    rw [if_pos (hn.2 hai), List.append_nil] at h2
    exact h2

def sumLen (W : List (List UInt8)) : Nat := (W.map List.length).sum
def blanksN (l : List UInt8) : Nat := (l.filter fun x => blankI x.toNat).length

theorem wgo_sum : ∀ (l cur : List UInt8), sumLen (wgo cur l) + blanksN l = cur.length + l.length
  | [], cur => by
    unfold wgo
    split
    · rename_i h; simp [sumLen, blanksN, h]
    · simp [sumLen, blanksN]
  | x :: r, cur => by
    unfold wgo
    split
    · rename_i hb
      have h := wgo_sum r []
      have e : blanksN (x :: r) = blanksN r + 1 := by simp [blanksN, hb]
      split
      · rename_i hc
        rw [e, hc]
        simp at h ⊢
        omega
      · rw [e]
        simp only [sumLen, List.map_cons, List.sum_cons, List.length_cons] at h ⊢
        simp at h
        omega
    · rename_i hb
      have h := wgo_sum r (cur ++ [x])
      have e : blanksN (x :: r) = blanksN r := by simp [blanksN, hb]
      rw [e, h]
      simp
      omega

def noBlank (w : List UInt8) : Prop := ∀ x ∈ w, blankI x.toNat = false

theorem wgo_words : ∀ (l cur : List UInt8), noBlank cur → ∀ w ∈ wgo cur l, w ≠ [] ∧ noBlank w
  | [], cur, hc, w, hw => by
    unfold wgo at hw
    split at hw
    · simp at hw
    · rename_i h
      obtain rfl : w = cur := by simpa using hw
      exact ⟨h, hc⟩
  | x :: r, cur, hc, w, hw => by
    unfold wgo at hw
    split at hw
    · split at hw
      · exact wgo_words r [] (fun y hy => by simp at hy) w hw
      · rename_i h
        rcases List.mem_cons.1 hw with rfl | hw
        · exact ⟨h, hc⟩
        · exact wgo_words r [] (fun y hy => by simp at hy) w hw
    · rename_i hb
      refine wgo_words r (cur ++ [x]) (fun y hy => ?_) w hw
      rcases List.mem_append.1 hy with h | h
      · exact hc y h
      · obtain rfl : y = x := by simpa using h
        simpa using hb

theorem wgo_one : ∀ (l cur : List UInt8), noBlank l → cur ++ l ≠ [] → wgo cur l = [cur ++ l]
  | [], cur, _, hne => by
    unfold wgo
    rw [if_neg (by simpa using hne)]
    simp
  | x :: r, cur, h, hne => by
    unfold wgo
    rw [if_neg (by rw [h x (by simp)]; simp), wgo_one r (cur ++ [x]) (fun y hy => h y (by simp [hy])) (by simp)]
    simp

theorem wgo_cut (c : UInt8) (hc : blankI c.toNat = true) (r : List UInt8) : ∀ (l cur : List UInt8), wgo cur (l ++ c :: r) = wgo cur l ++ wgo [] r
  | [], cur => by
    have e1 : wgo cur (c :: r) = if cur = [] then wgo [] r else cur :: wgo [] r := by rw [wgo, if_pos hc]
    have e2 : wgo cur [] = if cur = [] then [] else [cur] := by rw [wgo]
    rw [List.nil_append, e1, e2]
    split <;> simp
  | x :: l, cur => by
    have e1 : wgo cur (x :: (l ++ c :: r)) = if blankI x.toNat = true then (if cur = [] then wgo [] (l ++ c :: r) else cur :: wgo [] (l ++ c :: r)) else wgo (cur ++ [x]) (l ++ c :: r) := by rw [wgo]
    have e2 : wgo cur (x :: l) = if blankI x.toNat = true then (if cur = [] then wgo [] l else cur :: wgo [] l) else wgo (cur ++ [x]) l := by rw [wgo]
    rw [List.cons_append, e1, e2]
    split
    · split
      · exact wgo_cut c hc r l []
      · rw [wgo_cut c hc r l []]; simp
    · exact wgo_cut c hc r l (cur ++ [x])

theorem words_five (c : UInt8) (hc : blankI c.toNat = true) (a b : List UInt8) : wordsF ([c] ++ a ++ [c] ++ [c] ++ b ++ [c]) = wordsF a ++ wordsF b := by
  simp only [words_go]
  have e : [c] ++ a ++ [c] ++ [c] ++ b ++ [c] = [] ++ c :: (a ++ c :: ([] ++ c :: (b ++ c :: []))) := by simp
  rw [e, wgo_cut c hc, wgo_cut c hc, wgo_cut c hc, wgo_cut c hc]
  simp [wgo]

theorem words_sum (l : List UInt8) : sumLen (wordsF l) + blanksN l = l.length := by
  rw [words_go]
  simpa using wgo_sum l []

theorem words_word (l w : List UInt8) (h : w ∈ wordsF l) : w ≠ [] ∧ wordsF w = [w] := by
  rw [words_go] at h
  obtain ⟨h1, h2⟩ := wgo_words l [] (fun y hy => by simp at hy) w h
  refine ⟨h1, ?_⟩
  rw [words_go]
  exact wgo_one w [] h2 h1

theorem sum_next (W : List (List UInt8)) (i : Nat) (h : i < W.length) : sumLen (W.take (i + 1)) = sumLen (W.take i) + (W.getD i []).length := by
  rw [take_succ_getD W i [] h]
  simp [sumLen]

theorem sum_mem (W : List (List UInt8)) : ∀ w ∈ W, w.length ≤ sumLen W := by
  intro w hw
  induction W with
  | nil => simp at hw
  | cons x r ih =>
    simp only [sumLen, List.map_cons, List.sum_cons] at ih ⊢
    rcases List.mem_cons.1 hw with rfl | hw
    · omega
    · have := ih hw; omega

theorem sum_take (W : List (List UInt8)) (i : Nat) : sumLen (W.take i) ≤ sumLen W := by
  have : sumLen W = sumLen (W.take i) + sumLen (W.drop i) := by
    conv => lhs; rw [← List.take_append_drop i W]
    unfold sumLen
    rw [List.map_append, List.sum_append]
  omega

theorem blanks_next (l : List UInt8) (i : Nat) (h : i < l.length) : blanksN (l.take (i + 1)) = blanksN (l.take i) + (if blankI (l.getD i 0).toNat = true then 1 else 0) := by
  have := filter_next (fun x => blankI x.toNat) l i h
  unfold blanksN
  rw [this]
  split <;> simp

theorem blanks_le (l : List UInt8) (i : Nat) : blanksN (l.take i) ≤ l.length := by
  unfold blanksN
  exact Nat.le_trans (List.length_filter_le _ _) (by simp; omega)

def wl1S (a : List UInt8) (X Y Z : List (List UInt8)) (n i : Nat) : St := ⟨frame 105 [(0, .c (str a)), (7, .c (.bool true)), (8, .sl 0 0 X.length), (9, .sl 1 0 Y.length), (11, .sl 2 0 Z.length), (12, .c (.int .i64 n)), (13, .c (.int .i64 i))], [some ⟨9, false, strs X⟩, some ⟨9, false, strs Y⟩, some ⟨9, false, strs Z⟩]⟩
def wl2S (a : List UInt8) (X Y Z : List (List UInt8)) (n i : Nat) : St := ⟨frame 105 [(0, .c (str a)), (7, .c (.bool true)), (8, .sl 0 0 X.length), (9, .sl 1 0 Y.length), (11, .sl 2 0 Z.length), (12, .c (.int .i64 n)), (14, .c (.int .i64 i))], [some ⟨9, false, strs X⟩, some ⟨9, false, strs Y⟩, some ⟨9, false, strs Z⟩]⟩

noncomputable def wl1Run (h : List (Nat × Hint)) (S : St) : Option (Exit × St × List Prop) := roundOut ⟨[], [0, 7, 8, 9, 11, 12, 13], [0, 1, 2]⟩ (aCode Try.prog cl5 ⟨true, h⟩ (lpBy []) 60 (lbody Try.prog 7 10) S)
noncomputable def wl2Run (h : List (Nat × Hint)) (S : St) : Option (Exit × St × List Prop) := roundOut ⟨[], [0, 7, 8, 9, 11, 12, 14], [0, 1, 2]⟩ (aCode Try.prog cl5 ⟨true, h⟩ (lpBy []) 60 (lbody Try.prog 7 16) S)

theorem wl1a (a : List UInt8) (X Y Z : List (List UInt8)) (n i : Nat) (w : List UInt8) : wl1Run (bs [(52, true), (67, false), (75, false)] ++ [(59, ⟨.c (str w), none⟩), (65, ⟨.c (str w), none⟩), (72, ⟨.c (str w), none⟩)]) (wl1S a X Y Z n i) = some (.normal, wl1S a X Y Z (n + w.length) (i + 1), [((decide ((↑i : Int) < (↑X.length : Int)) : Bool)) = (true),
 (((0 : Int) : Int) ≤ ((↑i : Int))),
 (((↑i : Int) : Int) < ((↑X.length : Int))),
 (((0 : Nat) : Nat) < ((List.drop (i + (0 : Nat)) (strs X)).length)),
 avEq ((List.drop (i + (0 : Nat)) (strs X)).headD AV.any) ((AV.c (Value.string ({ data := { toList := w } })))),
 ((IntKind.i64.min : Int) ≤ ((↑n : Int) + (↑w.length : Int))),
 (((↑n : Int) + (↑w.length : Int) : Int) ≤ (IntKind.i64.max)),
 (((0 : Int) : Int) ≤ ((↑i : Int))),
 (((↑i : Int) : Int) < ((↑X.length : Int))),
 (((0 : Nat) : Nat) < ((List.drop (i + (0 : Nat)) (strs X)).length)),
 avEq ((List.drop (i + (0 : Nat)) (strs X)).headD AV.any) ((AV.c (Value.string ({ data := { toList := w } })))),
 (((↑w.length : Int) == (0 : Int) : Bool)) = (false),
 (((0 : Int) : Int) ≤ ((↑i : Int))),
 (((↑i : Int) : Int) < ((↑X.length : Int))),
 (((0 : Nat) : Nat) < ((List.drop (i + (0 : Nat)) (strs X)).length)),
 avEq ((List.drop (i + (0 : Nat)) (strs X)).headD AV.any) ((AV.c (Value.string ({ data := { toList := w } })))),
 ((w.length : Nat) ≤ ((1000000 : Nat))),
 (((↑(wordsF w).length : Int) != (1 : Int) : Bool)) = (false),
 ((IntKind.i64.min : Int) ≤ ((↑i : Int) + (1 : Int))),
 (((↑i : Int) + (1 : Int) : Int) ≤ (IntKind.i64.max))]) := by kernel_rfl

theorem wl1b (a : List UInt8) (X Y Z : List (List UInt8)) (n i : Nat) : wl1Run (bs [(52, false)]) (wl1S a X Y Z n i) = some (.exit 0, wl1S a X Y Z n i, [((decide ((↑i : Int) < (↑X.length : Int)) : Bool)) = (false)]) := by kernel_rfl

theorem wl2a (a : List UInt8) (X Y Z : List (List UInt8)) (n i : Nat) : wl2Run (bs [(80, true), (86, true)]) (wl2S a X Y Z n i) = some (.normal, wl2S a X Y Z (n + 1) (i + 1), [((decide ((↑i : Int) < (↑a.length : Int)) : Bool)) = (true),
 (((0 : Int) : Int) ≤ ((↑i : Int))),
 (((↑i : Int) : Int) < ((↑a.length : Int))),
 (((0 : Int) : Int) ≤ ((↑(a.getD i (0 : UInt8)).toNat : Int))),
 (((↑(a.getD i (0 : UInt8)).toNat : Int) : Int) < ((256 : Int))),
 ((blankI (↑(a.getD i (0 : UInt8)).toNat : Int) : Bool)) = (true),
 ((IntKind.i64.min : Int) ≤ ((↑n : Int) + (1 : Int))),
 (((↑n : Int) + (1 : Int) : Int) ≤ (IntKind.i64.max)),
 ((IntKind.i64.min : Int) ≤ ((↑i : Int) + (1 : Int))),
 (((↑i : Int) + (1 : Int) : Int) ≤ (IntKind.i64.max))]) := by kernel_rfl

theorem wl2b (a : List UInt8) (X Y Z : List (List UInt8)) (n i : Nat) : wl2Run (bs [(80, true), (86, false)]) (wl2S a X Y Z n i) = some (.normal, wl2S a X Y Z n (i + 1), [((decide ((↑i : Int) < (↑a.length : Int)) : Bool)) = (true),
 (((0 : Int) : Int) ≤ ((↑i : Int))),
 (((↑i : Int) : Int) < ((↑a.length : Int))),
 (((0 : Int) : Int) ≤ ((↑(a.getD i (0 : UInt8)).toNat : Int))),
 (((↑(a.getD i (0 : UInt8)).toNat : Int) : Int) < ((256 : Int))),
 ((blankI (↑(a.getD i (0 : UInt8)).toNat : Int) : Bool)) = (false),
 ((IntKind.i64.min : Int) ≤ ((↑i : Int) + (1 : Int))),
 (((↑i : Int) + (1 : Int) : Int) ≤ (IntKind.i64.max))]) := by kernel_rfl

theorem wl2c (a : List UInt8) (X Y Z : List (List UInt8)) (n i : Nat) : wl2Run (bs [(80, false)]) (wl2S a X Y Z n i) = some (.exit 2, wl2S a X Y Z n i, [((decide ((↑i : Int) < (↑a.length : Int)) : Bool)) = (false)]) := by kernel_rfl

end Go.Proofs.Yteadhhmbhgkojaa
