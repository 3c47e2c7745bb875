/- The library's stable sort at rows of numbers: two sorted blocks made one. -/
import Derived.Test.YtljgmgbjfjhjmaaSrtE
namespace Go.Proofs.Ytljgmgbjfjhjmaa
open Go.RowKit Srt
set_option linter.unusedVariables false
set_option linter.unusedSimpArgs false

def SorR (L : List Int) (D : List Nat) (a b : Nat) : Prop := Sor (keyL L) (seg D a b)
def LtR (D : List Nat) (a m b : Nat) : Prop := ∀ x ∈ seg D a m, ∀ y ∈ seg D m b, x < y
/-- A row sorted from a up to b. -/
def soD (L : List Int) (D : List Nat) (a b : Nat) : List Nat := put D a b (so (keyL L) (seg D a b))
def symSpec (K : Nat) : HSpec
  | [.sl 0 0 n, .c (.int .i64 a), .c (.int .i64 m), .c (.int .i64 b), .fn f [.pt 1 0]], [some ⟨t, false, C⟩, some ⟨t2, true, [.fs s k l]⟩] => if (t = 3 ∧ t2 = 22) ∧ (f = 37 ∧ s = 1) then
      some (.tu [], srH (soD (unI l) (unnats C) a.toNat b.toNat) k l, [C = nats (unnats C), (unnats C).length = n, n ≤ 255, 0 ≤ a, a < m, m < b, b ≤ n, l = rowN (unI l), k = (unI l).length, SmI (unI l), BdR (unnats C) k, SorR (unI l) (unnats C) a.toNat m.toNat, SorR (unI l) (unnats C) m.toNat b.toNat, LtR (unnats C) a.toNat m.toNat b.toNat, b - a < K]) else none
  | _, _ => none

noncomputable def clSy (K : Nat) : CallT := aCallH Try.prog (sgBy [(37, cmpSpec)]) (hsgBy [(55, rotSpec), (52, symSpec K)]) 500 8

noncomputable def sy3T_B (K n a m b s e mid : Nat) (D D1 D2 D3 : List Nat) (L : List Int) : List (Nat × Hint) := bs [(28, false), (80, false), (140, true)] ++ [(131, ⟨.c (.int .i64 (a + b : Nat)), none⟩), (132, ⟨.c (.int .u64 (a + b : Nat)), none⟩), (133, ⟨.c (.int .u64 mid), none⟩), (134, ⟨.c (.int .i64 mid), none⟩), (137, ⟨.c (.int .i64 (mid + m : Nat)), none⟩), (143, ⟨.c (.int .i64 (mid + m - b : Nat)), none⟩), (148, ⟨.c (.int .i64 (mid + m - 1 : Nat)), none⟩), (177, ⟨.c (.int .i64 e), none⟩)]

theorem sy3T_all (K n a m b s e mid : Nat) (D D1 D2 D3 : List Nat) (L : List Int) (h40 : mid < m) (hn : n ≤ 255) (g1 : a + 1 < m) (g2 : m + 1 < b) (g3 : b ≤ n) (hmid : (a + b) / 2 = mid) (he : s + e = mid + m) (hbs : b ≤ mid + m ∨ m ≤ mid) (q1 : a ≤ s) (q2 : s ≤ m) (q3 : s ≤ mid) (q4 : e ≤ b) (n1 : ¬ (s < m ∧ m < e) → D1 = D) (n2 : ¬ (a < s ∧ s < mid) → D2 = D1) (n3 : ¬ (mid < e ∧ e < b) → D3 = D2) (hD1 : rotD D s m e = D1) (hD2 : soD L D1 a mid = D2) (hD3 : soD L D2 mid b = D3) (l0 : D.length = n) (l1 : D1.length = n) (l2 : D2.length = n) (b1 : BdR D1 L.length) (b2 : BdR D2 L.length) (hsm : SmI L) (k1 : SorR L D1 a s) (k2 : SorR L D1 s mid) (k3 : LtR D1 a s mid) (k4 : SorR L D2 mid e) (k5 : SorR L D2 e b) (k6 : LtR D2 mid e b) (hK : b ≤ a + K) : ∃ (h : Hints) (p : List Prop), outKill [] (aBody Try.prog (clSy K) h (lpBy ([seLp D n a m b mid (mid + m - b) mid s L])) 60 52 ([.sl 0 0 n, .c (.int .i64 a), .c (.int .i64 m), .c (.int .i64 b), srF]) (srH D L.length (rowN L))) = some (.tu [], srH D3 L.length (rowN L), p) ∧ allP p := by
  refine bcase (decide ((↑m : Int) < (↑e : Int))) (fun hc184 => bcase (decide ((↑a : Int) < (↑s : Int))) (fun hc194 => bcase (decide ((↑e : Int) < (↑b : Int))) (fun hc212 => ⟨⟨true, bs [(180, true), (184, true), (194, true), (198, true), (208, true), (212, true)] ++ sy3T_B K n a m b s e mid D D1 D2 D3 L⟩, [(IntKind.i64.min : Int) ≤ ↑m - ↑a,
 (↑m - ↑a : Int) ≤ IntKind.i64.max,
 ((↑m : Int) - (↑a : Int) == (1 : Int)) = false,
 (IntKind.i64.min : Int) ≤ ↑b - ↑m,
 (↑b - ↑m : Int) ≤ IntKind.i64.max,
 ((↑b : Int) - (↑m : Int) == (1 : Int)) = false,
 (IntKind.i64.min : Int) ≤ ↑a + ↑b,
 (↑a + ↑b : Int) ≤ IntKind.i64.max,
 (↑a + ↑b : Int) = ↑(a + b),
 ((IntKind.u64.wrap (↑(a + b) : Int) : Int)) = ((↑(a + b) : Int)),
 (((↑(a + b) : Int).fdiv ((2 : Int) ^ (1 : Nat)) : Int)) = ((↑mid : Int)),
 ((IntKind.i64.wrap (↑mid : Int) : Int)) = ((↑mid : Int)),
 (IntKind.i64.min : Int) ≤ ↑mid + ↑m,
 (↑mid + ↑m : Int) ≤ IntKind.i64.max,
 (↑mid + ↑m : Int) = ↑(mid + m),
 decide ((↑m : Int) > ↑mid) = true,
 (IntKind.i64.min : Int) ≤ ↑(mid + m) - ↑b,
 (↑(mid + m) - ↑b : Int) ≤ IntKind.i64.max,
 (↑(mid + m) - ↑b : Int) = ↑(mid + m - b),
 (IntKind.i64.min : Int) ≤ ↑(mid + m) - 1,
 (↑(mid + m) - 1 : Int) ≤ IntKind.i64.max,
 (↑(mid + m) - 1 : Int) = ↑(mid + m - 1),
 ((lbody Try.prog (52 : FuncId) (33 : Nat) : Go.Code)) = (lbody Try.prog (52 : FuncId) (33 : Nat)),
 ((seS D n a m b mid (mid + m - b) mid L : Go.Proofs.Ytljgmgbjfjhjmaa.St)) = (seS D n a m b mid (mid + m - b) mid L),
 (IntKind.i64.min : Int) ≤ ↑(mid + m) - ↑s,
 (↑(mid + m) - ↑s : Int) ≤ IntKind.i64.max,
 (↑(mid + m) - ↑s : Int) = ↑e,
 decide ((↑s : Int) < ↑m) = true,
 decide ((↑m : Int) < ↑e) = true,
 ((nats D : List AV)) = (nats (unnats (nats D))),
 (((unnats (nats D)).length : Nat)) = (n),
 ((n : Nat) ≤ ((255 : Nat))),
 (0 : Int) ≤ ↑s,
 (↑s : Int) < ↑m,
 (↑m : Int) < ↑e,
 (↑e : Int) ≤ ↑n,
 decide ((↑a : Int) < ↑s) = true,
 decide ((↑s : Int) < ↑mid) = true,
 ((nats (rotD (unnats (nats D)) s m e) : List AV)) = (nats (unnats (nats (rotD (unnats (nats D)) s m e)))),
 (((unnats (nats (rotD (unnats (nats D)) s m e))).length : Nat)) = (n),
 ((n : Nat) ≤ ((255 : Nat))),
 (0 : Int) ≤ ↑a,
 (↑a : Int) < ↑s,
 (↑s : Int) < ↑mid,
 (↑mid : Int) ≤ ↑n,
 ((rowN L : List AV)) = (rowN (unI (rowN L))),
 ((L.length : Nat)) = ((unI (rowN L)).length),
 SmI (unI (rowN L)),
 BdR (unnats (nats (rotD (unnats (nats D)) s m e))) L.length,
 SorR (unI (rowN L)) (unnats (nats (rotD (unnats (nats D)) s m e))) a s,
 SorR (unI (rowN L)) (unnats (nats (rotD (unnats (nats D)) s m e))) s mid,
 LtR (unnats (nats (rotD (unnats (nats D)) s m e))) a s mid,
 (↑mid - ↑a : Int) < ↑K,
 decide ((↑mid : Int) < ↑e) = true,
 decide ((↑e : Int) < ↑b) = true,
 ((nats (soD (unI (rowN L)) (unnats (nats (rotD (unnats (nats D)) s m e))) a mid) : List AV)) = (nats (unnats (nats (soD (unI (rowN L)) (unnats (nats (rotD (unnats (nats D)) s m e))) a mid)))),
 (((unnats (nats (soD (unI (rowN L)) (unnats (nats (rotD (unnats (nats D)) s m e))) a mid))).length : Nat)) = (n),
 ((n : Nat) ≤ ((255 : Nat))),
 (0 : Int) ≤ ↑mid,
 (↑mid : Int) < ↑e,
 (↑e : Int) < ↑b,
 (↑b : Int) ≤ ↑n,
 ((rowN L : List AV)) = (rowN (unI (rowN L))),
 ((L.length : Nat)) = ((unI (rowN L)).length),
 SmI (unI (rowN L)),
 BdR (unnats (nats (soD (unI (rowN L)) (unnats (nats (rotD (unnats (nats D)) s m e))) a mid))) L.length,
 SorR (unI (rowN L)) (unnats (nats (soD (unI (rowN L)) (unnats (nats (rotD (unnats (nats D)) s m e))) a mid))) mid e,
 SorR (unI (rowN L)) (unnats (nats (soD (unI (rowN L)) (unnats (nats (rotD (unnats (nats D)) s m e))) a mid))) e b,
 LtR (unnats (nats (soD (unI (rowN L)) (unnats (nats (rotD (unnats (nats D)) s m e))) a mid))) mid e b,
 (↑b - ↑mid : Int) < ↑K], Eq.trans (b := some ((AV.tu []), [(.some ⟨3, false, (nats
  (soD (unI (rowN L)) (unnats (nats (soD (unI (rowN L)) (unnats (nats (rotD (unnats (nats D)) s m e))) a mid))) mid b))⟩),
 (.some ⟨22, true, [(AV.fs 1 L.length (rowN L))]⟩)], _)) (by kernel_rfl) (congrArg (fun r : AV × Heap => some (r.1, r.2, _)) (a₁ := (_, _)) (a₂ := (_, _)) ?_), ?_⟩)
    (fun hc212 => ⟨⟨true, bs [(180, true), (184, true), (194, true), (198, true), (208, true), (212, false)] ++ sy3T_B K n a m b s e mid D D1 D2 D3 L⟩, [(IntKind.i64.min : Int) ≤ ↑m - ↑a,
 (↑m - ↑a : Int) ≤ IntKind.i64.max,
 ((↑m : Int) - (↑a : Int) == (1 : Int)) = false,
 (IntKind.i64.min : Int) ≤ ↑b - ↑m,
 (↑b - ↑m : Int) ≤ IntKind.i64.max,
 ((↑b : Int) - (↑m : Int) == (1 : Int)) = false,
 (IntKind.i64.min : Int) ≤ ↑a + ↑b,
 (↑a + ↑b : Int) ≤ IntKind.i64.max,
 (↑a + ↑b : Int) = ↑(a + b),
 ((IntKind.u64.wrap (↑(a + b) : Int) : Int)) = ((↑(a + b) : Int)),
 (((↑(a + b) : Int).fdiv ((2 : Int) ^ (1 : Nat)) : Int)) = ((↑mid : Int)),
 ((IntKind.i64.wrap (↑mid : Int) : Int)) = ((↑mid : Int)),
 (IntKind.i64.min : Int) ≤ ↑mid + ↑m,
 (↑mid + ↑m : Int) ≤ IntKind.i64.max,
 (↑mid + ↑m : Int) = ↑(mid + m),
 decide ((↑m : Int) > ↑mid) = true,
 (IntKind.i64.min : Int) ≤ ↑(mid + m) - ↑b,
 (↑(mid + m) - ↑b : Int) ≤ IntKind.i64.max,
 (↑(mid + m) - ↑b : Int) = ↑(mid + m - b),
 (IntKind.i64.min : Int) ≤ ↑(mid + m) - 1,
 (↑(mid + m) - 1 : Int) ≤ IntKind.i64.max,
 (↑(mid + m) - 1 : Int) = ↑(mid + m - 1),
 ((lbody Try.prog (52 : FuncId) (33 : Nat) : Go.Code)) = (lbody Try.prog (52 : FuncId) (33 : Nat)),
 ((seS D n a m b mid (mid + m - b) mid L : Go.Proofs.Ytljgmgbjfjhjmaa.St)) = (seS D n a m b mid (mid + m - b) mid L),
 (IntKind.i64.min : Int) ≤ ↑(mid + m) - ↑s,
 (↑(mid + m) - ↑s : Int) ≤ IntKind.i64.max,
 (↑(mid + m) - ↑s : Int) = ↑e,
 decide ((↑s : Int) < ↑m) = true,
 decide ((↑m : Int) < ↑e) = true,
 ((nats D : List AV)) = (nats (unnats (nats D))),
 (((unnats (nats D)).length : Nat)) = (n),
 ((n : Nat) ≤ ((255 : Nat))),
 (0 : Int) ≤ ↑s,
 (↑s : Int) < ↑m,
 (↑m : Int) < ↑e,
 (↑e : Int) ≤ ↑n,
 decide ((↑a : Int) < ↑s) = true,
 decide ((↑s : Int) < ↑mid) = true,
 ((nats (rotD (unnats (nats D)) s m e) : List AV)) = (nats (unnats (nats (rotD (unnats (nats D)) s m e)))),
 (((unnats (nats (rotD (unnats (nats D)) s m e))).length : Nat)) = (n),
 ((n : Nat) ≤ ((255 : Nat))),
 (0 : Int) ≤ ↑a,
 (↑a : Int) < ↑s,
 (↑s : Int) < ↑mid,
 (↑mid : Int) ≤ ↑n,
 ((rowN L : List AV)) = (rowN (unI (rowN L))),
 ((L.length : Nat)) = ((unI (rowN L)).length),
 SmI (unI (rowN L)),
 BdR (unnats (nats (rotD (unnats (nats D)) s m e))) L.length,
 SorR (unI (rowN L)) (unnats (nats (rotD (unnats (nats D)) s m e))) a s,
 SorR (unI (rowN L)) (unnats (nats (rotD (unnats (nats D)) s m e))) s mid,
 LtR (unnats (nats (rotD (unnats (nats D)) s m e))) a s mid,
 (↑mid - ↑a : Int) < ↑K,
 decide ((↑mid : Int) < ↑e) = true,
 decide ((↑e : Int) < ↑b) = false], Eq.trans (b := some ((AV.tu []), [(.some ⟨3, false, (nats (soD (unI (rowN L)) (unnats (nats (rotD (unnats (nats D)) s m e))) a mid))⟩),
 (.some ⟨22, true, [(AV.fs 1 L.length (rowN L))]⟩)], _)) (by kernel_rfl) (congrArg (fun r : AV × Heap => some (r.1, r.2, _)) (a₁ := (_, _)) (a₂ := (_, _)) ?_), ?_⟩))
    (fun hc194 => ⟨⟨true, bs [(180, true), (184, true), (194, false), (208, true), (212, false)] ++ sy3T_B K n a m b s e mid D D1 D2 D3 L⟩, [(IntKind.i64.min : Int) ≤ ↑m - ↑a,
 (↑m - ↑a : Int) ≤ IntKind.i64.max,
 ((↑m : Int) - (↑a : Int) == (1 : Int)) = false,
 (IntKind.i64.min : Int) ≤ ↑b - ↑m,
 (↑b - ↑m : Int) ≤ IntKind.i64.max,
 ((↑b : Int) - (↑m : Int) == (1 : Int)) = false,
 (IntKind.i64.min : Int) ≤ ↑a + ↑b,
 (↑a + ↑b : Int) ≤ IntKind.i64.max,
 (↑a + ↑b : Int) = ↑(a + b),
 ((IntKind.u64.wrap (↑(a + b) : Int) : Int)) = ((↑(a + b) : Int)),
 (((↑(a + b) : Int).fdiv ((2 : Int) ^ (1 : Nat)) : Int)) = ((↑mid : Int)),
 ((IntKind.i64.wrap (↑mid : Int) : Int)) = ((↑mid : Int)),
 (IntKind.i64.min : Int) ≤ ↑mid + ↑m,
 (↑mid + ↑m : Int) ≤ IntKind.i64.max,
 (↑mid + ↑m : Int) = ↑(mid + m),
 decide ((↑m : Int) > ↑mid) = true,
 (IntKind.i64.min : Int) ≤ ↑(mid + m) - ↑b,
 (↑(mid + m) - ↑b : Int) ≤ IntKind.i64.max,
 (↑(mid + m) - ↑b : Int) = ↑(mid + m - b),
 (IntKind.i64.min : Int) ≤ ↑(mid + m) - 1,
 (↑(mid + m) - 1 : Int) ≤ IntKind.i64.max,
 (↑(mid + m) - 1 : Int) = ↑(mid + m - 1),
 ((lbody Try.prog (52 : FuncId) (33 : Nat) : Go.Code)) = (lbody Try.prog (52 : FuncId) (33 : Nat)),
 ((seS D n a m b mid (mid + m - b) mid L : Go.Proofs.Ytljgmgbjfjhjmaa.St)) = (seS D n a m b mid (mid + m - b) mid L),
 (IntKind.i64.min : Int) ≤ ↑(mid + m) - ↑s,
 (↑(mid + m) - ↑s : Int) ≤ IntKind.i64.max,
 (↑(mid + m) - ↑s : Int) = ↑e,
 decide ((↑s : Int) < ↑m) = true,
 decide ((↑m : Int) < ↑e) = true,
 ((nats D : List AV)) = (nats (unnats (nats D))),
 (((unnats (nats D)).length : Nat)) = (n),
 ((n : Nat) ≤ ((255 : Nat))),
 (0 : Int) ≤ ↑s,
 (↑s : Int) < ↑m,
 (↑m : Int) < ↑e,
 (↑e : Int) ≤ ↑n,
 decide ((↑a : Int) < ↑s) = false,
 decide ((↑mid : Int) < ↑e) = true,
 decide ((↑e : Int) < ↑b) = false], Eq.trans (b := some ((AV.tu []), [(.some ⟨3, false, (nats (rotD (unnats (nats D)) s m e))⟩),
 (.some ⟨22, true, [(AV.fs 1 L.length (rowN L))]⟩)], _)) (by kernel_rfl) (congrArg (fun r : AV × Heap => some (r.1, r.2, _)) (a₁ := (_, _)) (a₂ := (_, _)) ?_), ?_⟩))
    (fun hc184 => ⟨⟨true, bs [(180, true), (184, false), (194, true), (198, false), (208, true), (212, true)] ++ sy3T_B K n a m b s e mid D D1 D2 D3 L⟩, [(IntKind.i64.min : Int) ≤ ↑m - ↑a,
 (↑m - ↑a : Int) ≤ IntKind.i64.max,
 ((↑m : Int) - (↑a : Int) == (1 : Int)) = false,
 (IntKind.i64.min : Int) ≤ ↑b - ↑m,
 (↑b - ↑m : Int) ≤ IntKind.i64.max,
 ((↑b : Int) - (↑m : Int) == (1 : Int)) = false,
 (IntKind.i64.min : Int) ≤ ↑a + ↑b,
 (↑a + ↑b : Int) ≤ IntKind.i64.max,
 (↑a + ↑b : Int) = ↑(a + b),
 ((IntKind.u64.wrap (↑(a + b) : Int) : Int)) = ((↑(a + b) : Int)),
 (((↑(a + b) : Int).fdiv ((2 : Int) ^ (1 : Nat)) : Int)) = ((↑mid : Int)),
 ((IntKind.i64.wrap (↑mid : Int) : Int)) = ((↑mid : Int)),
 (IntKind.i64.min : Int) ≤ ↑mid + ↑m,
 (↑mid + ↑m : Int) ≤ IntKind.i64.max,
 (↑mid + ↑m : Int) = ↑(mid + m),
 decide ((↑m : Int) > ↑mid) = true,
 (IntKind.i64.min : Int) ≤ ↑(mid + m) - ↑b,
 (↑(mid + m) - ↑b : Int) ≤ IntKind.i64.max,
 (↑(mid + m) - ↑b : Int) = ↑(mid + m - b),
 (IntKind.i64.min : Int) ≤ ↑(mid + m) - 1,
 (↑(mid + m) - 1 : Int) ≤ IntKind.i64.max,
 (↑(mid + m) - 1 : Int) = ↑(mid + m - 1),
 ((lbody Try.prog (52 : FuncId) (33 : Nat) : Go.Code)) = (lbody Try.prog (52 : FuncId) (33 : Nat)),
 ((seS D n a m b mid (mid + m - b) mid L : Go.Proofs.Ytljgmgbjfjhjmaa.St)) = (seS D n a m b mid (mid + m - b) mid L),
 (IntKind.i64.min : Int) ≤ ↑(mid + m) - ↑s,
 (↑(mid + m) - ↑s : Int) ≤ IntKind.i64.max,
 (↑(mid + m) - ↑s : Int) = ↑e,
 decide ((↑s : Int) < ↑m) = true,
 decide ((↑m : Int) < ↑e) = false,
 decide ((↑a : Int) < ↑s) = true,
 decide ((↑s : Int) < ↑mid) = false,
 decide ((↑mid : Int) < ↑e) = true,
 decide ((↑e : Int) < ↑b) = true,
 ((nats D : List AV)) = (nats (unnats (nats D))),
 (((unnats (nats D)).length : Nat)) = (n),
 ((n : Nat) ≤ ((255 : Nat))),
 (0 : Int) ≤ ↑mid,
 (↑mid : Int) < ↑e,
 (↑e : Int) < ↑b,
 (↑b : Int) ≤ ↑n,
 ((rowN L : List AV)) = (rowN (unI (rowN L))),
 ((L.length : Nat)) = ((unI (rowN L)).length),
 SmI (unI (rowN L)),
 BdR (unnats (nats D)) L.length,
 SorR (unI (rowN L)) (unnats (nats D)) mid e,
 SorR (unI (rowN L)) (unnats (nats D)) e b,
 LtR (unnats (nats D)) mid e b,
 (↑b - ↑mid : Int) < ↑K], Eq.trans (b := some ((AV.tu []), [(.some ⟨3, false, (nats (soD (unI (rowN L)) (unnats (nats D)) mid b))⟩),
 (.some ⟨22, true, [(AV.fs 1 L.length (rowN L))]⟩)], _)) (by kernel_rfl) (congrArg (fun r : AV × Heap => some (r.1, r.2, _)) (a₁ := (_, _)) (a₂ := (_, _)) ?_), ?_⟩)
  all_goals try simp only [dz] at hc184
  all_goals try simp only [dz] at hc194
  all_goals try simp only [dz] at hc212
  all_goals first | (refine (have hq := n1 ?_; ?_); (focus omega); subst hq) | skip
  all_goals first | (refine (have hq := n2 ?_; ?_); (focus omega); subst hq) | skip
  all_goals first | (refine (have hq := n3 ?_; ?_); (focus omega); subst hq) | skip
  any_goals (
    simp (disch := omega) only [std, unnats_nats, unI_rowN, hD1, hD2, hD3]
    first | done | rfl
    done)
  all_goals try simp (disch := omega) only [std, u64w, shr1, unnats_nats, unI_rowN, hD1, hD2, hD3]
  all_goals repeat' apply And.intro
  all_goals first | exact True.intro | omega | with_reducible rfl | with_reducible assumption | exact hmid | exact he | exact hD1 | exact hD2 | exact hD3 | exact l0 | exact l1 | exact l2 | exact b1 | exact b2 | exact hsm | exact k1 | exact k2 | exact k3 | exact k4 | exact k5 | exact k6 | rfl


noncomputable def sy3F_B (K n a m b s e mid : Nat) (D D1 D2 D3 : List Nat) (L : List Int) : List (Nat × Hint) := bs [(28, false), (80, false), (140, false)] ++ [(131, ⟨.c (.int .i64 (a + b : Nat)), none⟩), (132, ⟨.c (.int .u64 (a + b : Nat)), none⟩), (133, ⟨.c (.int .u64 mid), none⟩), (134, ⟨.c (.int .i64 mid), none⟩), (137, ⟨.c (.int .i64 (mid + m : Nat)), none⟩), (143, ⟨.c (.int .i64 (mid + m - b : Nat)), none⟩), (148, ⟨.c (.int .i64 (mid + m - 1 : Nat)), none⟩), (177, ⟨.c (.int .i64 e), none⟩)]

theorem sy3F_all (K n a m b s e mid : Nat) (D D1 D2 D3 : List Nat) (L : List Int) (h40 : m ≤ mid) (hn : n ≤ 255) (g1 : a + 1 < m) (g2 : m + 1 < b) (g3 : b ≤ n) (hmid : (a + b) / 2 = mid) (he : s + e = mid + m) (hbs : b ≤ mid + m ∨ m ≤ mid) (q1 : a ≤ s) (q2 : s ≤ m) (q3 : s ≤ mid) (q4 : e ≤ b) (n1 : ¬ (s < m ∧ m < e) → D1 = D) (n2 : ¬ (a < s ∧ s < mid) → D2 = D1) (n3 : ¬ (mid < e ∧ e < b) → D3 = D2) (hD1 : rotD D s m e = D1) (hD2 : soD L D1 a mid = D2) (hD3 : soD L D2 mid b = D3) (l0 : D.length = n) (l1 : D1.length = n) (l2 : D2.length = n) (b1 : BdR D1 L.length) (b2 : BdR D2 L.length) (hsm : SmI L) (k1 : SorR L D1 a s) (k2 : SorR L D1 s mid) (k3 : LtR D1 a s mid) (k4 : SorR L D2 mid e) (k5 : SorR L D2 e b) (k6 : LtR D2 mid e b) (hK : b ≤ a + K) : ∃ (h : Hints) (p : List Prop), outKill [] (aBody Try.prog (clSy K) h (lpBy ([seLp D n a m b mid a m s L])) 60 52 ([.sl 0 0 n, .c (.int .i64 a), .c (.int .i64 m), .c (.int .i64 b), srF]) (srH D L.length (rowN L))) = some (.tu [], srH D3 L.length (rowN L), p) ∧ allP p := by
  refine bcase (decide ((↑s : Int) < (↑m : Int))) (fun hc180 => bcase (decide ((↑a : Int) < (↑s : Int))) (fun hc194 => ⟨⟨true, bs [(180, true), (184, true), (194, true), (198, true), (208, true), (212, true)] ++ sy3F_B K n a m b s e mid D D1 D2 D3 L⟩, [(IntKind.i64.min : Int) ≤ ↑m - ↑a,
 (↑m - ↑a : Int) ≤ IntKind.i64.max,
 ((↑m : Int) - (↑a : Int) == (1 : Int)) = false,
 (IntKind.i64.min : Int) ≤ ↑b - ↑m,
 (↑b - ↑m : Int) ≤ IntKind.i64.max,
 ((↑b : Int) - (↑m : Int) == (1 : Int)) = false,
 (IntKind.i64.min : Int) ≤ ↑a + ↑b,
 (↑a + ↑b : Int) ≤ IntKind.i64.max,
 (↑a + ↑b : Int) = ↑(a + b),
 ((IntKind.u64.wrap (↑(a + b) : Int) : Int)) = ((↑(a + b) : Int)),
 (((↑(a + b) : Int).fdiv ((2 : Int) ^ (1 : Nat)) : Int)) = ((↑mid : Int)),
 ((IntKind.i64.wrap (↑mid : Int) : Int)) = ((↑mid : Int)),
 (IntKind.i64.min : Int) ≤ ↑mid + ↑m,
 (↑mid + ↑m : Int) ≤ IntKind.i64.max,
 (↑mid + ↑m : Int) = ↑(mid + m),
 decide ((↑m : Int) > ↑mid) = false,
 (IntKind.i64.min : Int) ≤ ↑(mid + m) - 1,
 (↑(mid + m) - 1 : Int) ≤ IntKind.i64.max,
 (↑(mid + m) - 1 : Int) = ↑(mid + m - 1),
 ((lbody Try.prog (52 : FuncId) (33 : Nat) : Go.Code)) = (lbody Try.prog (52 : FuncId) (33 : Nat)),
 ((seS D n a m b mid a m L : Go.Proofs.Ytljgmgbjfjhjmaa.St)) = (seS D n a m b mid a m L),
 (IntKind.i64.min : Int) ≤ ↑(mid + m) - ↑s,
 (↑(mid + m) - ↑s : Int) ≤ IntKind.i64.max,
 (↑(mid + m) - ↑s : Int) = ↑e,
 decide ((↑s : Int) < ↑m) = true,
 decide ((↑m : Int) < ↑e) = true,
 ((nats D : List AV)) = (nats (unnats (nats D))),
 (((unnats (nats D)).length : Nat)) = (n),
 ((n : Nat) ≤ ((255 : Nat))),
 (0 : Int) ≤ ↑s,
 (↑s : Int) < ↑m,
 (↑m : Int) < ↑e,
 (↑e : Int) ≤ ↑n,
 decide ((↑a : Int) < ↑s) = true,
 decide ((↑s : Int) < ↑mid) = true,
 ((nats (rotD (unnats (nats D)) s m e) : List AV)) = (nats (unnats (nats (rotD (unnats (nats D)) s m e)))),
 (((unnats (nats (rotD (unnats (nats D)) s m e))).length : Nat)) = (n),
 ((n : Nat) ≤ ((255 : Nat))),
 (0 : Int) ≤ ↑a,
 (↑a : Int) < ↑s,
 (↑s : Int) < ↑mid,
 (↑mid : Int) ≤ ↑n,
 ((rowN L : List AV)) = (rowN (unI (rowN L))),
 ((L.length : Nat)) = ((unI (rowN L)).length),
 SmI (unI (rowN L)),
 BdR (unnats (nats (rotD (unnats (nats D)) s m e))) L.length,
 SorR (unI (rowN L)) (unnats (nats (rotD (unnats (nats D)) s m e))) a s,
 SorR (unI (rowN L)) (unnats (nats (rotD (unnats (nats D)) s m e))) s mid,
 LtR (unnats (nats (rotD (unnats (nats D)) s m e))) a s mid,
 (↑mid - ↑a : Int) < ↑K,
 decide ((↑mid : Int) < ↑e) = true,
 decide ((↑e : Int) < ↑b) = true,
 ((nats (soD (unI (rowN L)) (unnats (nats (rotD (unnats (nats D)) s m e))) a mid) : List AV)) = (nats (unnats (nats (soD (unI (rowN L)) (unnats (nats (rotD (unnats (nats D)) s m e))) a mid)))),
 (((unnats (nats (soD (unI (rowN L)) (unnats (nats (rotD (unnats (nats D)) s m e))) a mid))).length : Nat)) = (n),
 ((n : Nat) ≤ ((255 : Nat))),
 (0 : Int) ≤ ↑mid,
 (↑mid : Int) < ↑e,
 (↑e : Int) < ↑b,
 (↑b : Int) ≤ ↑n,
 ((rowN L : List AV)) = (rowN (unI (rowN L))),
 ((L.length : Nat)) = ((unI (rowN L)).length),
 SmI (unI (rowN L)),
 BdR (unnats (nats (soD (unI (rowN L)) (unnats (nats (rotD (unnats (nats D)) s m e))) a mid))) L.length,
 SorR (unI (rowN L)) (unnats (nats (soD (unI (rowN L)) (unnats (nats (rotD (unnats (nats D)) s m e))) a mid))) mid e,
 SorR (unI (rowN L)) (unnats (nats (soD (unI (rowN L)) (unnats (nats (rotD (unnats (nats D)) s m e))) a mid))) e b,
 LtR (unnats (nats (soD (unI (rowN L)) (unnats (nats (rotD (unnats (nats D)) s m e))) a mid))) mid e b,
 (↑b - ↑mid : Int) < ↑K], Eq.trans (b := some ((AV.tu []), [(.some ⟨3, false, (nats
  (soD (unI (rowN L)) (unnats (nats (soD (unI (rowN L)) (unnats (nats (rotD (unnats (nats D)) s m e))) a mid))) mid b))⟩),
 (.some ⟨22, true, [(AV.fs 1 L.length (rowN L))]⟩)], _)) (by kernel_rfl) (congrArg (fun r : AV × Heap => some (r.1, r.2, _)) (a₁ := (_, _)) (a₂ := (_, _)) ?_), ?_⟩)
    (fun hc194 => bcase (decide ((↑e : Int) < (↑b : Int))) (fun hc212 => ⟨⟨true, bs [(180, true), (184, true), (194, false), (208, true), (212, true)] ++ sy3F_B K n a m b s e mid D D1 D2 D3 L⟩, [(IntKind.i64.min : Int) ≤ ↑m - ↑a,
 (↑m - ↑a : Int) ≤ IntKind.i64.max,
 ((↑m : Int) - (↑a : Int) == (1 : Int)) = false,
 (IntKind.i64.min : Int) ≤ ↑b - ↑m,
 (↑b - ↑m : Int) ≤ IntKind.i64.max,
 ((↑b : Int) - (↑m : Int) == (1 : Int)) = false,
 (IntKind.i64.min : Int) ≤ ↑a + ↑b,
 (↑a + ↑b : Int) ≤ IntKind.i64.max,
 (↑a + ↑b : Int) = ↑(a + b),
 ((IntKind.u64.wrap (↑(a + b) : Int) : Int)) = ((↑(a + b) : Int)),
 (((↑(a + b) : Int).fdiv ((2 : Int) ^ (1 : Nat)) : Int)) = ((↑mid : Int)),
 ((IntKind.i64.wrap (↑mid : Int) : Int)) = ((↑mid : Int)),
 (IntKind.i64.min : Int) ≤ ↑mid + ↑m,
 (↑mid + ↑m : Int) ≤ IntKind.i64.max,
 (↑mid + ↑m : Int) = ↑(mid + m),
 decide ((↑m : Int) > ↑mid) = false,
 (IntKind.i64.min : Int) ≤ ↑(mid + m) - 1,
 (↑(mid + m) - 1 : Int) ≤ IntKind.i64.max,
 (↑(mid + m) - 1 : Int) = ↑(mid + m - 1),
 ((lbody Try.prog (52 : FuncId) (33 : Nat) : Go.Code)) = (lbody Try.prog (52 : FuncId) (33 : Nat)),
 ((seS D n a m b mid a m L : Go.Proofs.Ytljgmgbjfjhjmaa.St)) = (seS D n a m b mid a m L),
 (IntKind.i64.min : Int) ≤ ↑(mid + m) - ↑s,
 (↑(mid + m) - ↑s : Int) ≤ IntKind.i64.max,
 (↑(mid + m) - ↑s : Int) = ↑e,
 decide ((↑s : Int) < ↑m) = true,
 decide ((↑m : Int) < ↑e) = true,
 ((nats D : List AV)) = (nats (unnats (nats D))),
 (((unnats (nats D)).length : Nat)) = (n),
 ((n : Nat) ≤ ((255 : Nat))),
 (0 : Int) ≤ ↑s,
 (↑s : Int) < ↑m,
 (↑m : Int) < ↑e,
 (↑e : Int) ≤ ↑n,
 decide ((↑a : Int) < ↑s) = false,
 decide ((↑mid : Int) < ↑e) = true,
 decide ((↑e : Int) < ↑b) = true,
 ((nats (rotD (unnats (nats D)) s m e) : List AV)) = (nats (unnats (nats (rotD (unnats (nats D)) s m e)))),
 (((unnats (nats (rotD (unnats (nats D)) s m e))).length : Nat)) = (n),
 ((n : Nat) ≤ ((255 : Nat))),
 (0 : Int) ≤ ↑mid,
 (↑mid : Int) < ↑e,
 (↑e : Int) < ↑b,
 (↑b : Int) ≤ ↑n,
 ((rowN L : List AV)) = (rowN (unI (rowN L))),
 ((L.length : Nat)) = ((unI (rowN L)).length),
 SmI (unI (rowN L)),
 BdR (unnats (nats (rotD (unnats (nats D)) s m e))) L.length,
 SorR (unI (rowN L)) (unnats (nats (rotD (unnats (nats D)) s m e))) mid e,
 SorR (unI (rowN L)) (unnats (nats (rotD (unnats (nats D)) s m e))) e b,
 LtR (unnats (nats (rotD (unnats (nats D)) s m e))) mid e b,
 (↑b - ↑mid : Int) < ↑K], Eq.trans (b := some ((AV.tu []), [(.some ⟨3, false, (nats (soD (unI (rowN L)) (unnats (nats (rotD (unnats (nats D)) s m e))) mid b))⟩),
 (.some ⟨22, true, [(AV.fs 1 L.length (rowN L))]⟩)], _)) (by kernel_rfl) (congrArg (fun r : AV × Heap => some (r.1, r.2, _)) (a₁ := (_, _)) (a₂ := (_, _)) ?_), ?_⟩)
    (fun hc212 => ⟨⟨true, bs [(180, true), (184, true), (194, false), (208, true), (212, false)] ++ sy3F_B K n a m b s e mid D D1 D2 D3 L⟩, [(IntKind.i64.min : Int) ≤ ↑m - ↑a,
 (↑m - ↑a : Int) ≤ IntKind.i64.max,
 ((↑m : Int) - (↑a : Int) == (1 : Int)) = false,
 (IntKind.i64.min : Int) ≤ ↑b - ↑m,
 (↑b - ↑m : Int) ≤ IntKind.i64.max,
 ((↑b : Int) - (↑m : Int) == (1 : Int)) = false,
 (IntKind.i64.min : Int) ≤ ↑a + ↑b,
 (↑a + ↑b : Int) ≤ IntKind.i64.max,
 (↑a + ↑b : Int) = ↑(a + b),
 ((IntKind.u64.wrap (↑(a + b) : Int) : Int)) = ((↑(a + b) : Int)),
 (((↑(a + b) : Int).fdiv ((2 : Int) ^ (1 : Nat)) : Int)) = ((↑mid : Int)),
 ((IntKind.i64.wrap (↑mid : Int) : Int)) = ((↑mid : Int)),
 (IntKind.i64.min : Int) ≤ ↑mid + ↑m,
 (↑mid + ↑m : Int) ≤ IntKind.i64.max,
 (↑mid + ↑m : Int) = ↑(mid + m),
 decide ((↑m : Int) > ↑mid) = false,
 (IntKind.i64.min : Int) ≤ ↑(mid + m) - 1,
 (↑(mid + m) - 1 : Int) ≤ IntKind.i64.max,
 (↑(mid + m) - 1 : Int) = ↑(mid + m - 1),
 ((lbody Try.prog (52 : FuncId) (33 : Nat) : Go.Code)) = (lbody Try.prog (52 : FuncId) (33 : Nat)),
 ((seS D n a m b mid a m L : Go.Proofs.Ytljgmgbjfjhjmaa.St)) = (seS D n a m b mid a m L),
 (IntKind.i64.min : Int) ≤ ↑(mid + m) - ↑s,
 (↑(mid + m) - ↑s : Int) ≤ IntKind.i64.max,
 (↑(mid + m) - ↑s : Int) = ↑e,
 decide ((↑s : Int) < ↑m) = true,
 decide ((↑m : Int) < ↑e) = true,
 ((nats D : List AV)) = (nats (unnats (nats D))),
 (((unnats (nats D)).length : Nat)) = (n),
 ((n : Nat) ≤ ((255 : Nat))),
 (0 : Int) ≤ ↑s,
 (↑s : Int) < ↑m,
 (↑m : Int) < ↑e,
 (↑e : Int) ≤ ↑n,
 decide ((↑a : Int) < ↑s) = false,
 decide ((↑mid : Int) < ↑e) = true,
 decide ((↑e : Int) < ↑b) = false], Eq.trans (b := some ((AV.tu []), [(.some ⟨3, false, (nats (rotD (unnats (nats D)) s m e))⟩),
 (.some ⟨22, true, [(AV.fs 1 L.length (rowN L))]⟩)], _)) (by kernel_rfl) (congrArg (fun r : AV × Heap => some (r.1, r.2, _)) (a₁ := (_, _)) (a₂ := (_, _)) ?_), ?_⟩)))
    (fun hc180 => bcase (decide ((↑s : Int) < (↑mid : Int))) (fun hc198 => ⟨⟨true, bs [(180, false), (194, true), (198, true), (208, false)] ++ sy3F_B K n a m b s e mid D D1 D2 D3 L⟩, [(IntKind.i64.min : Int) ≤ ↑m - ↑a,
 (↑m - ↑a : Int) ≤ IntKind.i64.max,
 ((↑m : Int) - (↑a : Int) == (1 : Int)) = false,
 (IntKind.i64.min : Int) ≤ ↑b - ↑m,
 (↑b - ↑m : Int) ≤ IntKind.i64.max,
 ((↑b : Int) - (↑m : Int) == (1 : Int)) = false,
 (IntKind.i64.min : Int) ≤ ↑a + ↑b,
 (↑a + ↑b : Int) ≤ IntKind.i64.max,
 (↑a + ↑b : Int) = ↑(a + b),
 ((IntKind.u64.wrap (↑(a + b) : Int) : Int)) = ((↑(a + b) : Int)),
 (((↑(a + b) : Int).fdiv ((2 : Int) ^ (1 : Nat)) : Int)) = ((↑mid : Int)),
 ((IntKind.i64.wrap (↑mid : Int) : Int)) = ((↑mid : Int)),
 (IntKind.i64.min : Int) ≤ ↑mid + ↑m,
 (↑mid + ↑m : Int) ≤ IntKind.i64.max,
 (↑mid + ↑m : Int) = ↑(mid + m),
 decide ((↑m : Int) > ↑mid) = false,
 (IntKind.i64.min : Int) ≤ ↑(mid + m) - 1,
 (↑(mid + m) - 1 : Int) ≤ IntKind.i64.max,
 (↑(mid + m) - 1 : Int) = ↑(mid + m - 1),
 ((lbody Try.prog (52 : FuncId) (33 : Nat) : Go.Code)) = (lbody Try.prog (52 : FuncId) (33 : Nat)),
 ((seS D n a m b mid a m L : Go.Proofs.Ytljgmgbjfjhjmaa.St)) = (seS D n a m b mid a m L),
 (IntKind.i64.min : Int) ≤ ↑(mid + m) - ↑s,
 (↑(mid + m) - ↑s : Int) ≤ IntKind.i64.max,
 (↑(mid + m) - ↑s : Int) = ↑e,
 decide ((↑s : Int) < ↑m) = false,
 decide ((↑a : Int) < ↑s) = true,
 decide ((↑s : Int) < ↑mid) = true,
 ((nats D : List AV)) = (nats (unnats (nats D))),
 (((unnats (nats D)).length : Nat)) = (n),
 ((n : Nat) ≤ ((255 : Nat))),
 (0 : Int) ≤ ↑a,
 (↑a : Int) < ↑s,
 (↑s : Int) < ↑mid,
 (↑mid : Int) ≤ ↑n,
 ((rowN L : List AV)) = (rowN (unI (rowN L))),
 ((L.length : Nat)) = ((unI (rowN L)).length),
 SmI (unI (rowN L)),
 BdR (unnats (nats D)) L.length,
 SorR (unI (rowN L)) (unnats (nats D)) a s,
 SorR (unI (rowN L)) (unnats (nats D)) s mid,
 LtR (unnats (nats D)) a s mid,
 (↑mid - ↑a : Int) < ↑K,
 decide ((↑mid : Int) < ↑e) = false], Eq.trans (b := some ((AV.tu []), [(.some ⟨3, false, (nats (soD (unI (rowN L)) (unnats (nats D)) a mid))⟩),
 (.some ⟨22, true, [(AV.fs 1 L.length (rowN L))]⟩)], _)) (by kernel_rfl) (congrArg (fun r : AV × Heap => some (r.1, r.2, _)) (a₁ := (_, _)) (a₂ := (_, _)) ?_), ?_⟩)
    (fun hc198 => ⟨⟨true, bs [(180, false), (194, true), (198, false), (208, false)] ++ sy3F_B K n a m b s e mid D D1 D2 D3 L⟩, [(IntKind.i64.min : Int) ≤ ↑m - ↑a,
 (↑m - ↑a : Int) ≤ IntKind.i64.max,
 ((↑m : Int) - (↑a : Int) == (1 : Int)) = false,
 (IntKind.i64.min : Int) ≤ ↑b - ↑m,
 (↑b - ↑m : Int) ≤ IntKind.i64.max,
 ((↑b : Int) - (↑m : Int) == (1 : Int)) = false,
 (IntKind.i64.min : Int) ≤ ↑a + ↑b,
 (↑a + ↑b : Int) ≤ IntKind.i64.max,
 (↑a + ↑b : Int) = ↑(a + b),
 ((IntKind.u64.wrap (↑(a + b) : Int) : Int)) = ((↑(a + b) : Int)),
 (((↑(a + b) : Int).fdiv ((2 : Int) ^ (1 : Nat)) : Int)) = ((↑mid : Int)),
 ((IntKind.i64.wrap (↑mid : Int) : Int)) = ((↑mid : Int)),
 (IntKind.i64.min : Int) ≤ ↑mid + ↑m,
 (↑mid + ↑m : Int) ≤ IntKind.i64.max,
 (↑mid + ↑m : Int) = ↑(mid + m),
 decide ((↑m : Int) > ↑mid) = false,
 (IntKind.i64.min : Int) ≤ ↑(mid + m) - 1,
 (↑(mid + m) - 1 : Int) ≤ IntKind.i64.max,
 (↑(mid + m) - 1 : Int) = ↑(mid + m - 1),
 ((lbody Try.prog (52 : FuncId) (33 : Nat) : Go.Code)) = (lbody Try.prog (52 : FuncId) (33 : Nat)),
 ((seS D n a m b mid a m L : Go.Proofs.Ytljgmgbjfjhjmaa.St)) = (seS D n a m b mid a m L),
 (IntKind.i64.min : Int) ≤ ↑(mid + m) - ↑s,
 (↑(mid + m) - ↑s : Int) ≤ IntKind.i64.max,
 (↑(mid + m) - ↑s : Int) = ↑e,
 decide ((↑s : Int) < ↑m) = false,
 decide ((↑a : Int) < ↑s) = true,
 decide ((↑s : Int) < ↑mid) = false,
 decide ((↑mid : Int) < ↑e) = false], Eq.trans (b := some ((AV.tu []), [(.some ⟨3, false, (nats D)⟩),
 (.some ⟨22, true, [(AV.fs 1 L.length (rowN L))]⟩)], _)) (by kernel_rfl) (congrArg (fun r : AV × Heap => some (r.1, r.2, _)) (a₁ := (_, _)) (a₂ := (_, _)) ?_), ?_⟩))
  all_goals try simp only [dz] at hc180
  all_goals try simp only [dz] at hc194
  all_goals try simp only [dz] at hc212
  all_goals try simp only [dz] at hc198
  all_goals first | (refine (have hq := n1 ?_; ?_); (focus omega); subst hq) | skip
  all_goals first | (refine (have hq := n2 ?_; ?_); (focus omega); subst hq) | skip
  all_goals first | (refine (have hq := n3 ?_; ?_); (focus omega); subst hq) | skip
  any_goals (
    simp (disch := omega) only [std, unnats_nats, unI_rowN, hD1, hD2, hD3]
    first | done | rfl
    done)
  all_goals try simp (disch := omega) only [std, u64w, shr1, unnats_nats, unI_rowN, hD1, hD2, hD3]
  all_goals repeat' apply And.intro
  all_goals first | exact True.intro | omega | with_reducible rfl | with_reducible assumption | exact hmid | exact he | exact hD1 | exact hD2 | exact hD3 | exact l0 | exact l1 | exact l2 | exact b1 | exact b2 | exact hsm | exact k1 | exact k2 | exact k3 | exact k4 | exact k5 | exact k6 | rfl

theorem so_id {κ : Nat → Int} {l : List Nat} (h : Sor κ l) : so κ l = l := (so_eq h (List.Perm.refl _)).symm

/-- What a row in six pieces becomes. -/
theorem sy_parts {L : List Int} {P A1 A2 B1 B2 Q : List Nat} {n a m b s e mid : Nat} (ha : P.length = a) (hs : a + A1.length = s) (hm : s + A2.length = m) (he : m + B1.length = e) (hb : e + B2.length = b) (hmid : s + B1.length = mid)
    (hA : Sor (keyL L) (A1 ++ A2)) (hB : Sor (keyL L) (B1 ++ B2)) (hlt : ∀ x ∈ A1 ++ A2, ∀ y ∈ B1 ++ B2, x < y) (hbd : BdR (P ++ (A1 ++ (A2 ++ (B1 ++ (B2 ++ Q))))) L.length) :
    ∃ D1 D2 D3, D1 = rotD (P ++ (A1 ++ (A2 ++ (B1 ++ (B2 ++ Q))))) s m e ∧ D2 = soD L D1 a mid ∧ D3 = soD L D2 mid b ∧ D3 = P ++ (so (keyL L) (A1 ++ B1) ++ (so (keyL L) (A2 ++ B2) ++ Q)) ∧
      (¬ (s < m ∧ m < e) → D1 = P ++ (A1 ++ (A2 ++ (B1 ++ (B2 ++ Q))))) ∧ (¬ (a < s ∧ s < mid) → D2 = D1) ∧ (¬ (mid < e ∧ e < b) → D3 = D2) ∧
      D1.length = (P ++ (A1 ++ (A2 ++ (B1 ++ (B2 ++ Q))))).length ∧ D2.length = (P ++ (A1 ++ (A2 ++ (B1 ++ (B2 ++ Q))))).length ∧ BdR D1 L.length ∧ BdR D2 L.length ∧
      SorR L D1 a s ∧ SorR L D1 s mid ∧ LtR D1 a s mid ∧ SorR L D2 mid e ∧ SorR L D2 e b ∧ LtR D2 mid e b := by
  obtain ⟨a1, a2, _⟩ := List.pairwise_append.1 hA
  obtain ⟨b1, b2, _⟩ := List.pairwise_append.1 hB
  have e1 : rotD (P ++ (A1 ++ (A2 ++ (B1 ++ (B2 ++ Q))))) s m e = P ++ (A1 ++ (B1 ++ (A2 ++ (B2 ++ Q)))) := by
    unfold rotD
    have k1 : P ++ (A1 ++ (A2 ++ (B1 ++ (B2 ++ Q)))) = (P ++ A1) ++ ((A2 ++ B1) ++ (B2 ++ Q)) := by simp
    have k2 : P ++ (A1 ++ (A2 ++ (B1 ++ (B2 ++ Q)))) = (P ++ A1 ++ A2) ++ (B1 ++ (B2 ++ Q)) := by simp
    have k3 : P ++ (A1 ++ (A2 ++ (B1 ++ (B2 ++ Q)))) = (P ++ A1) ++ (A2 ++ (B1 ++ (B2 ++ Q))) := by simp
    have h1 : seg (P ++ (A1 ++ (A2 ++ (B1 ++ (B2 ++ Q))))) m e = B1 := by rw [k2]; exact seg_at (by simp only [List.length_append]; omega) he
    have h2 : seg (P ++ (A1 ++ (A2 ++ (B1 ++ (B2 ++ Q))))) s m = A2 := by rw [k3]; exact seg_at (by simp only [List.length_append]; omega) hm
    rw [h1, h2, k1, put_at (by simp only [List.length_append]; omega) (by simp only [List.length_append]; omega)]
    simp
  have e2 : soD L (P ++ (A1 ++ (B1 ++ (A2 ++ (B2 ++ Q))))) a mid = P ++ (so (keyL L) (A1 ++ B1) ++ (A2 ++ (B2 ++ Q))) := by
    unfold soD
    rw [← List.append_assoc A1 B1, put_at ha (by simp only [List.length_append]; omega), seg_at ha (by simp only [List.length_append]; omega)]
  have hl1 : (so (keyL L) (A1 ++ B1)).length = A1.length + B1.length := by rw [so_len, List.length_append]
  have e3 : soD L (P ++ (so (keyL L) (A1 ++ B1) ++ (A2 ++ (B2 ++ Q)))) mid b = P ++ (so (keyL L) (A1 ++ B1) ++ (so (keyL L) (A2 ++ B2) ++ Q)) := by
    unfold soD
    rw [← List.append_assoc P, ← List.append_assoc A2 B2, put_at (by rw [List.length_append, hl1]; omega) (by simp only [List.length_append]; omega), seg_at (by rw [List.length_append, hl1]; omega) (by simp only [List.length_append]; omega), List.append_assoc]
  refine ⟨_, _, _, e1.symm, e2.symm, e3.symm, rfl, fun h => ?_, fun h => ?_, fun h => ?_, by simp only [List.length_append]; omega, by simp only [List.length_append, hl1]; omega, fun z hz => hbd z ?_, fun z hz => hbd z ?_, ?_, ?_, ?_, ?_, ?_, ?_⟩
  · rcases Nat.eq_zero_or_pos A2.length with h2 | h2
    · rw [List.eq_nil_of_length_eq_zero h2]; simp
    · have : B1.length = 0 := by omega
      rw [List.eq_nil_of_length_eq_zero this]; simp
  · rcases Nat.eq_zero_or_pos A1.length with h2 | h2
    · rw [List.eq_nil_of_length_eq_zero h2, List.nil_append, so_id b1]; rfl
    · have : B1.length = 0 := by omega
      rw [List.eq_nil_of_length_eq_zero this, List.append_nil, so_id a1]; rfl
  · rcases Nat.eq_zero_or_pos A2.length with h2 | h2
    · rw [List.eq_nil_of_length_eq_zero h2, List.nil_append, so_id b2]; rfl
    · have : B2.length = 0 := by omega
      rw [List.eq_nil_of_length_eq_zero this, List.append_nil, so_id a2]; rfl
  · simp only [List.mem_append] at hz ⊢
    rcases hz with h | h | h | h | h | h <;> simp [h]
  · simp only [List.mem_append, so_mem] at hz ⊢
    rcases hz with h | (h | h) | h | h | h <;> simp [h]
  · unfold SorR
    rw [seg_at ha hs]; exact a1
  · unfold SorR
    rw [← List.append_assoc P, seg_at (by simp only [List.length_append]; omega) hmid]; exact b1
  · intro x hx y hy
    rw [seg_at ha hs] at hx
    rw [← List.append_assoc P, seg_at (by simp only [List.length_append]; omega) hmid] at hy
    exact hlt x (List.mem_append_left _ hx) y (List.mem_append_left _ hy)
  · unfold SorR
    rw [← List.append_assoc P, seg_at (by rw [List.length_append, hl1]; omega) (by omega)]; exact a2
  · unfold SorR
    rw [← List.append_assoc P, ← List.append_assoc (P ++ so (keyL L) (A1 ++ B1)), seg_at (by rw [List.length_append, List.length_append, hl1]; omega) hb]; exact b2
  · intro x hx y hy
    rw [← List.append_assoc P, seg_at (by rw [List.length_append, hl1]; omega) (by omega)] at hx
    rw [← List.append_assoc P, ← List.append_assoc (P ++ so (keyL L) (A1 ++ B1)), seg_at (by rw [List.length_append, List.length_append, hl1]; omega) hb] at hy
    exact hlt x (List.mem_append_right _ hx) y (List.mem_append_right _ hy)

theorem getA (P A R : List Nat) {a i : Nat} (ha : P.length = a) (hi : i < A.length) : (P ++ (A ++ R)).getD (a + i) 0 = A.getD i 0 := by
  subst ha
  simp only [List.getD]
  rw [List.getElem?_append_right (by omega), Nat.add_sub_cancel_left, List.getElem?_append_left hi]
theorem getB (P A B R : List Nat) {m j : Nat} (hm : P.length + A.length = m) (hj : j < B.length) : (P ++ (A ++ (B ++ R))).getD (m + j) 0 = B.getD j 0 := by
  rw [← List.append_assoc]
  exact getA (P ++ A) B R (by rw [List.length_append]; exact hm) hj

/-- The search finds a cut. -/
theorem sy_cut {L : List Int} {P A B Q : List Nat} {a m b mid lo hi : Nat} (ha : P.length = a) (hm : a + A.length = m) (hb : m + B.length = b) (hmid : (a + b) / 2 = mid) (hA : Sor (keyL L) A) (hB : Sor (keyL L) B)
    (hlo : lo = a + (mid - a - B.length)) (hhi : hi = a + min A.length (mid - a)) : ∃ u, bsr (fun c => !ltK L (P ++ (A ++ (B ++ Q))) (mid + m - 1 - c) c) (hi - lo) lo hi = a + u ∧ Cut (keyL L) A B (mid - a) u := by
  have hA' : ∀ i, i < A.length → (P ++ (A ++ (B ++ Q))).getD (a + i) 0 = A.getD i 0 := fun i hi => getA P A (B ++ Q) ha hi
  have hB' : ∀ j, j < B.length → (P ++ (A ++ (B ++ Q))).getD (m + j) 0 = B.getD j 0 := fun j hj => getB P A B Q (by omega) hj
  have tv : ∀ i, i < A.length → i < mid - a → mid - a - B.length ≤ i → ltK L (P ++ (A ++ (B ++ Q))) (mid + m - 1 - (a + i)) (a + i) = decide (keyL L (B.getD (mid - a - 1 - i) 0) < keyL L (A.getD i 0)) := by
    intro i h1 h2 h3
    unfold ltK
    rw [hA' i h1, show mid + m - 1 - (a + i) = m + (mid - a - 1 - i) by omega, hB' _ (by omega)]
  obtain ⟨k1, k2, k3, k4⟩ := bsr_is (fun c => !ltK L (P ++ (A ++ (B ++ Q))) (mid + m - 1 - c) c) (hi - lo) lo hi (by omega) (Nat.le_refl _) (fun c c' h1 h2 h3 h4 => by
    obtain ⟨i, rfl⟩ : ∃ i, c = a + i := ⟨c - a, by omega⟩
    obtain ⟨i', rfl⟩ : ∃ i, c' = a + i := ⟨c' - a, by omega⟩
    have h4 : (!ltK L (P ++ (A ++ (B ++ Q))) (mid + m - 1 - (a + i')) (a + i')) = true := h4
    show (!ltK L (P ++ (A ++ (B ++ Q))) (mid + m - 1 - (a + i)) (a + i)) = true
    rw [tv i' (by omega) (by omega) (by omega)] at h4
    rw [tv i (by omega) (by omega) (by omega)]
    simp only [Bool.not_eq_true', decide_eq_false_iff_not] at h4 ⊢
    have m1 := so_mono hA (i := i) (j := i') (by omega) (by omega)
    have m2 := so_mono hB (i := mid - a - 1 - i') (j := mid - a - 1 - i) (by omega) (by omega)
    omega)
  generalize bsr (fun c => !ltK L (P ++ (A ++ (B ++ Q))) (mid + m - 1 - c) c) (hi - lo) lo hi = s at *
  obtain ⟨u, rfl⟩ : ∃ u, s = a + u := ⟨s - a, by omega⟩
  refine ⟨u, rfl, by omega, by omega, by omega, fun i h1 h2 => ?_, fun i h1 h2 h3 => ?_⟩
  · have h := k3 (a + i) (by omega) (by omega)
    have h : (!ltK L (P ++ (A ++ (B ++ Q))) (mid + m - 1 - (a + i)) (a + i)) = true := h
    rw [tv i (by omega) (by omega) (by omega)] at h
    simpa using h
  · have h := k4 (a + i) (by omega) (by omega)
    have h : (!ltK L (P ++ (A ++ (B ++ Q))) (mid + m - 1 - (a + i)) (a + i)) = false := h
    rw [tv i (by omega) (by omega) (by omega)] at h
    simpa using h

end Go.Proofs.Ytljgmgbjfjhjmaa
