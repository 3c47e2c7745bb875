/- References to signs: plain lists. -/
import Derived.Test.YtfnappdgiomiiaaDoorTextB
import Derived.Test.YtfnappdgiomiiaaDoorDig
namespace Go.Proofs.YtfnappdgiomiiaaDoor.Ent
open Go.RowKit
set_option linter.unusedVariables false
set_option linter.unusedSimpArgs false

def looseT : List (List UInt8 × List UInt8) := [
  ([97, 109, 112], [38]),
  ([65, 77, 80], [38]),
  ([108, 116], [60]),
  ([76, 84], [60]),
  ([103, 116], [62]),
  ([71, 84], [62]),
  ([113, 117, 111, 116], [34]),
  ([81, 85, 79, 84], [34]),
  ([110, 98, 115, 112], [194, 160]),
  ([115, 104, 121], [194, 173]),
  ([110, 111, 116], [194, 172]),
  ([114, 101, 103], [194, 174]),
  ([99, 111, 112, 121], [194, 169]),
  ([112, 97, 114, 97], [194, 182]),
  ([115, 101, 99, 116], [194, 167]),
  ([121, 101, 110], [194, 165]),
  ([100, 101, 103], [194, 176]),
  ([116, 105, 109, 101, 115], [195, 151]),
  ([101, 97, 99, 117, 116, 101], [195, 169]),
  ([111, 117, 109, 108], [195, 182]),
  ([115, 122, 108, 105, 103], [195, 159])]
def markT : List (List UInt8 × List UInt8) := [
  ([97, 112, 111, 115], [39]),
  ([99, 111, 108, 111, 110], [58]),
  ([115, 111, 108], [47]),
  ([98, 115, 111, 108], [92]),
  ([113, 117, 101, 115, 116], [63]),
  ([110, 117, 109], [35]),
  ([112, 101, 114, 99, 110, 116], [37]),
  ([99, 111, 109, 109, 97, 116], [64]),
  ([101, 113, 117, 97, 108, 115], [61]),
  ([112, 108, 117, 115], [43]),
  ([99, 111, 109, 109, 97], [44]),
  ([112, 101, 114, 105, 111, 100], [46]),
  ([115, 101, 109, 105], [59]),
  ([101, 120, 99, 108], [33]),
  ([100, 111, 108, 108, 97, 114], [36]),
  ([97, 115, 116], [42]),
  ([108, 111, 119, 98, 97, 114], [95]),
  ([103, 114, 97, 118, 101], [96]),
  ([72, 97, 116], [94]),
  ([108, 112, 97, 114], [40]),
  ([114, 112, 97, 114], [41]),
  ([108, 115, 113, 98], [91]),
  ([114, 115, 113, 98], [93]),
  ([108, 99, 117, 98], [123]),
  ([114, 99, 117, 98], [125]),
  ([118, 101, 114, 98, 97, 114], [124])]
def moreT : List (List UInt8 × List UInt8) := [
  ([84, 97, 98], [9]),
  ([78, 101, 119, 76, 105, 110, 101], [10]),
  ([110, 111, 116, 105, 110], [226, 136, 137]),
  ([110, 118, 108, 116], [60, 226, 131, 146]),
  ([110, 118, 103, 116], [62, 226, 131, 146]),
  ([122, 119, 110, 106], [226, 128, 140]),
  ([122, 119, 106], [226, 128, 141]),
  ([90, 101, 114, 111, 87, 105, 100, 116, 104, 83, 112, 97, 99, 101], [226, 128, 139]),
  ([78, 111, 66, 114, 101, 97, 107], [226, 129, 160]),
  ([102, 106, 108, 105, 103], [102, 106]),
  ([99, 111, 112, 121, 115, 114], [226, 132, 151]),
  ([116, 105, 109, 101, 115, 98, 97, 114], [226, 168, 177])]
def strictT : List (List UInt8 × List UInt8) := markT ++ moreT
def movedT : List Nat := [8364, 0, 8218, 402, 8222, 8230, 8224, 8225, 710, 8240, 352, 8249, 338, 0, 381, 0, 0, 8216, 8217, 8220, 8221, 8226, 8211, 8212, 732, 8482, 353, 8250, 339, 0, 382, 376]

def lookT : List (List UInt8 × List UInt8) → List UInt8 → List UInt8
  | [], _ => []
  | kv :: r, l => if kv.1 = l then kv.2 else lookT r l

/-- Is ; its last byte? -/
def endC (l : List UInt8) : Bool := l.getLast? == some 59

/-- What a name stands for; none: nothing. -/
def namedF (l : List UInt8) : List UInt8 :=
  if endC l = true then (if lookT looseT l.dropLast = [] then lookT strictT l.dropLast else lookT looseT l.dropLast) else lookT looseT l

def isL (c : UInt8) : Bool := letterI (c.toNat : Nat)

def okT (kv : List UInt8 × List UInt8) : Bool := !kv.1.isEmpty && !kv.2.isEmpty && kv.1.all isL && decide (kv.1.length ≤ 14) && decide (kv.2.length ≤ kv.1.length + 1)

theorem loose_ok : looseT.all okT = true := by decide +kernel
theorem strict_ok : strictT.all okT = true := by decide +kernel
theorem apart_ok : (strictT.all fun kv => (lookT looseT kv.1).isEmpty) = true := by decide +kernel

theorem lookT_mem : ∀ (T : List (List UInt8 × List UInt8)) (l : List UInt8), lookT T l ≠ [] → (l, lookT T l) ∈ T
  | [], l, h => absurd rfl h
  | kv :: r, l, h => by
    unfold lookT at h ⊢
    by_cases e : kv.1 = l
    · rw [if_pos e] at h ⊢
      subst e
      exact List.mem_cons_self
    · rw [if_neg e] at h ⊢
      exact List.mem_cons_of_mem _ (lookT_mem r l h)

theorem mark_apart : (moreT.all fun kv => (lookT markT kv.1).isEmpty) = true := by decide +kernel

theorem lookT_cons (kv : List UInt8 × List UInt8) (r : List (List UInt8 × List UInt8)) (l : List UInt8) : lookT (kv :: r) l = if kv.1 = l then kv.2 else lookT r l := rfl
theorem lookT_none : ∀ (T : List (List UInt8 × List UInt8)) (l : List UInt8), (∀ kv ∈ T, kv.2 ≠ []) → lookT T l = [] → ∀ kv ∈ T, (l == kv.1) = false
  | [], _, _, _, kv, hk => by cases hk
  | x :: r, l, h, hl, kv, hk => by
    rw [lookT_cons] at hl
    by_cases e : x.1 = l
    · rw [if_pos e] at hl; exact absurd hl (h x List.mem_cons_self)
    · rw [if_neg e] at hl
      rcases List.mem_cons.1 hk with rfl | hk
      · rw [beq_eq_false_iff_ne]; exact fun h => e h.symm
      · exact lookT_none r l (fun y hy => h y (List.mem_cons_of_mem _ hy)) hl kv hk
theorem lookT_app : ∀ (a b : List (List UInt8 × List UInt8)) (l : List UInt8), (∀ kv ∈ a, kv.2 ≠ []) → lookT (a ++ b) l = if lookT a l = [] then lookT b l else lookT a l
  | [], b, l, _ => rfl
  | kv :: a, b, l, h => by
    rw [List.cons_append, lookT_cons, lookT_cons]
    by_cases e : kv.1 = l
    · rw [if_pos e, if_pos e, if_neg (h kv List.mem_cons_self)]
    · rw [if_neg e, if_neg e, lookT_app a b l (fun x hx => h x (List.mem_cons_of_mem _ hx))]

/-- A name: letters, not none and not too many; what it stands for is short. -/
structure Nm (l v : List UInt8) : Prop where
  ne : l ≠ []
  vne : v ≠ []
  let_ : ∀ c ∈ l, isL c = true
  len : l.length ≤ 14
  vlen : v.length ≤ l.length + 1

theorem nm_of {l v : List UInt8} (h : okT (l, v) = true) : Nm l v := by
  unfold okT at h
  simp only [Bool.and_eq_true, decide_eq_true_eq, List.all_eq_true, Bool.not_eq_true', List.isEmpty_eq_false_iff] at h
  exact ⟨h.1.1.1.1, h.1.1.1.2, h.1.1.2, h.1.2, h.2⟩
theorem nm_loose {l : List UInt8} (h : lookT looseT l ≠ []) : Nm l (lookT looseT l) := nm_of (List.all_eq_true.1 loose_ok _ (lookT_mem _ _ h))
theorem nm_strict {l : List UInt8} (h : lookT strictT l ≠ []) : Nm l (lookT strictT l) := nm_of (List.all_eq_true.1 strict_ok _ (lookT_mem _ _ h))

theorem vne_of {T : List (List UInt8 × List UInt8)} (h : T.all okT = true) : ∀ kv ∈ T, kv.2 ≠ [] := fun kv hkv => (nm_of (l := kv.1) (v := kv.2) (List.all_eq_true.1 h kv hkv)).vne
theorem mark_ok : markT.all okT = true := by decide +kernel
theorem more_ok : moreT.all okT = true := by decide +kernel
/-- As the program looks for them: the others first. -/
theorem strict_prog (l : List UInt8) : lookT strictT l = if lookT moreT l = [] then lookT markT l else lookT moreT l := by
  unfold strictT
  rw [lookT_app _ _ _ (vne_of mark_ok)]
  by_cases h : lookT moreT l = []
  · rw [if_pos h, h]
    split
    · rename_i h2; rw [h2]
    · rfl
  · rw [if_neg h]
    have := List.all_eq_true.1 mark_apart _ (lookT_mem _ _ h)
    rw [List.isEmpty_iff.1 this, if_pos rfl]

theorem apart {l : List UInt8} (h : lookT strictT l ≠ []) : lookT looseT l = [] := by
  have := List.all_eq_true.1 apart_ok _ (lookT_mem _ _ h)
  exact List.isEmpty_iff.1 this

theorem isL_ne {c : UInt8} (h : isL c = true) : c ≠ 59 ∧ c ≠ 35 ∧ c ≠ 38 ∧ c ≠ 61 := by
  refine ⟨?_, ?_, ?_, ?_⟩ <;> (rintro rfl; exact absurd h (by decide))

theorem endC_snoc (l : List UInt8) (c : UInt8) : endC (l ++ [c]) = (c == 59) := by
  unfold endC
  rw [List.getLast?_concat]
  rfl
theorem endC_iff {l : List UInt8} : endC l = true ↔ ∃ b, l = b ++ [59] := by
  constructor
  · intro h
    unfold endC at h
    rw [beq_iff_eq] at h
    exact List.getLast?_eq_some_iff.1 h
  · rintro ⟨b, rfl⟩
    rw [endC_snoc]
    rfl
theorem endC_let {l : List UInt8} (h : ∀ c ∈ l, isL c = true) : endC l = false := by
  cases he : endC l with
  | false => rfl
  | true =>
    obtain ⟨b, rfl⟩ := endC_iff.1 he
    exact absurd rfl (isL_ne (h 59 (by simp))).1

theorem named_bare {l : List UInt8} (h : endC l = false) : namedF l = lookT looseT l := by
  unfold namedF
  rw [if_neg (by rw [h]; simp)]
theorem named_semi (b : List UInt8) : namedF (b ++ [59]) = if lookT looseT b = [] then lookT strictT b else lookT looseT b := by
  unfold namedF
  rw [if_pos (by rw [endC_snoc]; rfl), List.dropLast_concat]

/-- What is a name. -/
theorem named_some {l : List UInt8} (h : namedF l ≠ []) : (Nm l (namedF l) ∧ endC l = false ∧ namedF l = lookT looseT l) ∨ ∃ b, l = b ++ [59] ∧ Nm b (namedF l) := by
  cases he : endC l with
  | false =>
    rw [named_bare he] at h ⊢
    exact .inl ⟨nm_loose h, rfl, rfl⟩
  | true =>
    obtain ⟨b, rfl⟩ := endC_iff.1 he
    refine .inr ⟨b, rfl, ?_⟩
    rw [named_semi] at h ⊢
    by_cases hl : lookT looseT b = []
    · rw [if_pos hl] at h ⊢; exact nm_strict h
    · rw [if_neg hl] at h ⊢; exact nm_loose hl

theorem named_nil : namedF [] = [] := by decide +kernel

theorem named_len {l : List UInt8} (h : namedF l ≠ []) : l ≠ [] ∧ l.length ≤ 15 ∧ (namedF l).length ≤ l.length + 1 := by
  rcases named_some h with ⟨n, _⟩ | ⟨b, rfl, n⟩
  · exact ⟨n.ne, by have := n.len; omega, n.vlen⟩
  · have h1 := n.len
    have h2 := n.vlen
    refine ⟨by simp, ?_, ?_⟩ <;> rw [List.length_append, List.length_singleton] <;> omega

/-- The first byte of a name is a letter. -/
theorem named_head {c : UInt8} {r : List UInt8} (h : isL c = false) : namedF (c :: r) = [] := by
  apply Classical.byContradiction
  intro hn
  rcases named_some hn with ⟨n, _⟩ | ⟨b, hb, n⟩
  · have := n.let_ c List.mem_cons_self
    rw [h] at this; cases this
  · cases b with
    | nil => exact n.ne rfl
    | cons d b =>
      simp only [List.cons_append, List.cons.injEq] at hb
      have := n.let_ d List.mem_cons_self
      rw [← hb.1, h] at this; cases this

/-- All bytes of a name but the last one are letters. -/
theorem named_mid {a : List UInt8} {c : UInt8} {r : List UInt8} (h : isL c = false) (hr : r ≠ []) : namedF (a ++ c :: r) = [] := by
  apply Classical.byContradiction
  intro hn
  rcases named_some hn with ⟨n, _⟩ | ⟨b, hb, n⟩
  · have := n.let_ c (by simp)
    rw [h] at this; cases this
  · obtain ⟨r', d, rfl⟩ : ∃ r' d, r = r' ++ [d] := ⟨r.dropLast, r.getLast hr, (List.dropLast_concat_getLast hr).symm⟩
    rw [show a ++ c :: (r' ++ [d]) = (a ++ c :: r') ++ [d] by simp] at hb
    have := (List.append_inj' hb rfl).1
    have := n.let_ c (by rw [← this]; simp)
    rw [h] at this; cases this
/-- The last one is a letter, or a ;. -/
theorem named_last {a : List UInt8} {c : UInt8} (h : isL c = false) (hc : c ≠ 59) : namedF (a ++ [c]) = [] := by
  apply Classical.byContradiction
  intro hn
  rcases named_some hn with ⟨n, _⟩ | ⟨b, hb, n⟩
  · have := n.let_ c (by simp)
    rw [h] at this; cases this
  · have := (List.append_inj' hb rfl).2
    simp at this
    exact hc this

/-! Numbers. -/
def numI (n : Int) : Int := if n = 0 then 65533 else if 128 ≤ n ∧ n ≤ 159 then (if movedT.getD (n.toNat - 128) 0 = 0 then n else (movedT.getD (n.toNat - 128) 0 : Nat)) else n
def numberF (n : Int) : List UInt8 := encN (sgn (numI n))

/-- A byte as a digit, -1 if it is none. -/
def dg (b : Int) (c : UInt8) : Int := digitI (c.toNat : Nat) b

/-- What the digits at the front are worth, and how many they are. -/
def runW (b : Int) : List UInt8 → Int → Int × Nat
  | [], n => (n, 0)
  | c :: r, n => if dg b c < 0 then (n, 0) else ((runW b r (min (b * n + dg b c) 1114112)).1, (runW b r (min (b * n + dg b c) 1114112)).2 + 1)

/-- Of a text behind & that begins with #: what stands for it, and how many bytes it takes (0: it is none). -/
def tailR (b : Int) (ahead : Nat) (l : List UInt8) : List UInt8 × Nat :=
  if (runW b l 0).2 = 0 then ([38], 0)
  else (numberF (runW b l 0).1, ahead + (runW b l 0).2 + if (l.drop (runW b l 0).2).head? = some 59 then 1 else 0)
def byNum (l : List UInt8) : List UInt8 × Nat :=
  match l with
  | 120 :: r | 88 :: r => tailR 16 2 r
  | r => tailR 10 1 r

/-- Does what stands behind a name keep it from being read? -/
def goesOn : List UInt8 → Bool
  | [] => false
  | c :: _ => isL c || decide (0 ≤ dg 10 c) || c == 61

def byName (l : List UInt8) : Nat → List UInt8 × Nat
  | 0 => ([38], 0)
  | n + 1 =>
    if namedF (l.take (n + 1)) = [] then byName l n
    else if l.getD n 0 ≠ 59 ∧ goesOn (l.drop (n + 1)) = true then ([38], 0)
    else (namedF (l.take (n + 1)), n + 1)

def refF (l : List UInt8) : List UInt8 × Nat :=
  match l with
  | 35 :: r => byNum r
  | r => byName r (min r.length 15)

/-- What is decoded. -/
def decE : Nat → List UInt8 → List UInt8
  | 0, _ => []
  | _ + 1, [] => []
  | f + 1, c :: r => if c = 38 then (refF r).1 ++ decE f (r.drop (refF r).2) else c :: decE f r

def entF (l : List UInt8) : List UInt8 := decE l.length l

theorem decE_cons (f : Nat) (c : UInt8) (r : List UInt8) : decE (f + 1) (c :: r) = if c = 38 then (refF r).1 ++ decE f (r.drop (refF r).2) else c :: decE f r := rfl
theorem decE_more : ∀ (f : Nat) (l : List UInt8), l.length ≤ f → decE f l = decE l.length l
  | 0, l, h => by
    have : l = [] := List.length_eq_zero_iff.1 (by omega)
    subst this; rfl
  | f + 1, [], h => rfl
  | f + 1, c :: r, h => by
    simp only [List.length_cons] at h ⊢
    rw [decE_cons, decE_cons]
    have hd : (r.drop (refF r).2).length ≤ r.length := by rw [List.length_drop]; omega
    rw [decE_more f r (by omega), decE_more f (r.drop (refF r).2) (by omega), decE_more r.length (r.drop (refF r).2) hd]
theorem ent_nil : entF [] = [] := rfl
theorem ent_amp (r : List UInt8) : entF (38 :: r) = (refF r).1 ++ entF (r.drop (refF r).2) := by
  unfold entF
  rw [List.length_cons, decE_cons, if_pos rfl, decE_more r.length (r.drop (refF r).2) (by rw [List.length_drop]; omega)]
theorem ent_cons {c : UInt8} (r : List UInt8) (h : c ≠ 38) : entF (c :: r) = c :: entF r := by
  unfold entF
  rw [List.length_cons, decE_cons, if_neg h]
theorem ent_app : ∀ (a r : List UInt8), (∀ c ∈ a, c ≠ 38) → entF (a ++ r) = a ++ entF r
  | [], r, _ => rfl
  | c :: a, r, h => by
    rw [List.cons_append, ent_cons _ (h c List.mem_cons_self), ent_app a r (fun d hd => h d (List.mem_cons_of_mem _ hd)), List.cons_append]
theorem ent_low (a : List UInt8) (h : ∀ c ∈ a, c ≠ 38) : entF a = a := by
  have := ent_app a [] h
  rw [List.append_nil, ent_nil, List.append_nil] at this
  exact this

/-! How long a reference is. -/
theorem enc_le (c : Nat) : (encN c).length ≤ 4 := by
  unfold encN; repeat' split
  all_goals simp
theorem enc_le3 {c : Nat} (h : c < 65536) : (encN c).length ≤ 3 := by
  unfold encN; repeat' split
  all_goals first | simp | omega
theorem sgn_lt {c : Int} (h : c < 65536) : sgn c < 65536 := by unfold sgn; split <;> omega
theorem number_le (n : Int) : (numberF n).length ≤ 4 := enc_le _
theorem moved_lt : ∀ i, i < 32 → movedT.getD i 0 < 65536 := by decide +kernel
theorem number_le3 {n : Int} (h : n < 65536) : (numberF n).length ≤ 3 := by
  refine enc_le3 (sgn_lt ?_)
  unfold numI
  split
  · decide
  · split
    · split
      · exact h
      · have := moved_lt (n.toNat - 128) (by omega); omega
    · exact h
theorem enc_ne (c : Nat) : encN c ≠ [] := by
  unfold encN; repeat' split
  all_goals simp
theorem number_ne (n : Int) : numberF n ≠ [] := enc_ne _

theorem runW_le (b : Int) : ∀ (l : List UInt8) (n : Int), (runW b l n).2 ≤ l.length
  | [], n => Nat.le_refl _
  | c :: r, n => by
    unfold runW
    split
    · exact Nat.zero_le _
    · simp only [List.length_cons]
      have := runW_le b r (min (b * n + dg b c) 1114112)
      omega
theorem dg_lt {b : Int} {c : UInt8} (h : 0 ≤ dg b c) : dg b c < b := by
  unfold dg digitI at h ⊢
  split
  · rename_i h2; exact h2
  · rename_i h2; rw [if_neg h2] at h; omega
/-- One digit is not worth much. -/
theorem runW_one {b : Int} {l : List UInt8} (h : (runW b l 0).2 = 1) (hb : b ≤ 16) : (runW b l 0).1 < 16 := by
  cases l with
  | nil => simp [runW] at h
  | cons c r =>
    unfold runW at h ⊢
    split at h
    · simp at h
    · rename_i hd
      rw [if_neg hd]
      have hd' := dg_lt (b := b) (c := c) (by omega)
      simp only at h ⊢
      have h1 : min (b * 0 + dg b c) 1114112 = dg b c := by omega
      rw [h1] at h ⊢
      cases r with
      | nil => simp only [runW]; omega
      | cons d r =>
        unfold runW at h ⊢
        split at h
        · rename_i hd2
          rw [if_pos hd2]
          simp only
          omega
        · simp at h
theorem tailR_len {b : Int} {ahead : Nat} {l : List UInt8} (hb : b ≤ 16) (ha : 1 ≤ ahead) : (tailR b ahead l).1.length ≤ (tailR b ahead l).2 + 1 ∧ (tailR b ahead l).2 ≤ l.length + ahead := by
  unfold tailR
  have h1 := runW_le b l 0
  split
  · simp
  · rename_i h0
    simp only
    constructor
    · by_cases h : (runW b l 0).2 = 1
      · have := number_le3 (n := (runW b l 0).1) (by have := runW_one h hb; omega)
        omega
      · have := number_le (runW b l 0).1
        omega
    · split
      · rename_i h2
        have : (l.drop (runW b l 0).2) ≠ [] := by intro e; rw [e] at h2; simp at h2
        have := List.length_pos_iff.2 this
        rw [List.length_drop] at this
        omega
      · omega
theorem byNum_len (l : List UInt8) : (byNum l).1.length ≤ (byNum l).2 + 1 ∧ (byNum l).2 ≤ l.length + 1 := by
  unfold byNum
  split
  · rename_i r; have := tailR_len (b := 16) (ahead := 2) (l := r) (by omega) (by omega); simp only [List.length_cons]; exact this
  · rename_i r; have := tailR_len (b := 16) (ahead := 2) (l := r) (by omega) (by omega); simp only [List.length_cons]; exact this
  · exact tailR_len (by omega) (by omega)
theorem byName_len (l : List UInt8) : ∀ n, n ≤ l.length → (byName l n).1.length ≤ (byName l n).2 + 1 ∧ (byName l n).2 ≤ n
  | 0, _ => by simp [byName]
  | n + 1, h => by
    unfold byName
    split
    · have := byName_len l n (by omega); omega
    · rename_i hn
      split
      · simp
      · have := named_len hn
        have hl : (l.take (n + 1)).length = n + 1 := by rw [List.length_take]; omega
        rw [hl] at this
        exact ⟨this.2.2, Nat.le_refl _⟩
theorem ref_len (l : List UInt8) : (refF l).1.length ≤ (refF l).2 + 1 ∧ (refF l).2 ≤ l.length := by
  unfold refF
  split
  · rename_i r
    have := byNum_len r
    simp only [List.length_cons]
    exact this
  · have := byName_len l (min l.length 15) (by omega)
    omega
theorem ent_len (l : List UInt8) : (entF l).length ≤ l.length := by
  induction hn : l.length using Nat.strongRecOn generalizing l with
  | _ n ih =>
    cases l with
    | nil => simp [ent_nil]
    | cons c r =>
      simp only [List.length_cons] at hn
      by_cases h : c = 38
      · subst h
        rw [ent_amp]
        have hr := ref_len r
        have hd : (r.drop (refF r).2).length = r.length - (refF r).2 := List.length_drop ..
        have := ih (r.length - (refF r).2) (by omega) (r.drop (refF r).2) hd
        rw [List.length_append]
        omega
      · rw [ent_cons _ h]
        have := ih r.length (by omega) r rfl
        simp only [List.length_cons]
        omega

theorem byNum_le4 (l : List UInt8) : (byNum l).1.length ≤ 4 := by
  have key : ∀ (b : Int) (a : Nat) (l : List UInt8), (tailR b a l).1.length ≤ 4 := by
    intro b a l
    unfold tailR
    split
    · simp
    · exact number_le _
  unfold byNum
  split <;> exact key _ _ _

/-! Nothing vanishes. -/
theorem tailR_ne (b : Int) (a : Nat) (l : List UInt8) : (tailR b a l).1 ≠ [] := by
  unfold tailR
  split
  · simp
  · exact number_ne _
theorem byNum_ne (l : List UInt8) : (byNum l).1 ≠ [] := by
  unfold byNum
  split <;> exact tailR_ne _ _ _
theorem byName_ne (l : List UInt8) : ∀ n, (byName l n).1 ≠ []
  | 0 => by simp [byName]
  | n + 1 => by
    unfold byName
    split
    · exact byName_ne l n
    · rename_i h
      split
      · simp
      · exact h
theorem ref_ne (l : List UInt8) : (refF l).1 ≠ [] := by
  unfold refF
  split
  · exact byNum_ne _
  · exact byName_ne _ _
theorem ent_pos {l : List UInt8} (h : 0 < l.length) : 0 < (entF l).length := by
  cases l with
  | nil => simp at h
  | cons c r =>
    by_cases hc : c = 38
    · subst hc
      rw [ent_amp, List.length_append]
      have := List.length_pos_iff.2 (ref_ne r)
      omega
    · rw [ent_cons _ hc]
      simp

end Go.Proofs.YtfnappdgiomiiaaDoor.Ent
