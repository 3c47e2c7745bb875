/- The laws of stage 2, whatever is handed in. -/
import Derived.Test.YtfaffnemfndkfaaDoorTextQ
namespace Go.Proofs.YtfaffnemfndkfaaDoor
open Go.RowKit U8
set_option linter.unusedVariables false
set_option linter.unusedSimpArgs false

/-- A law's run answers true. -/
def LawOK (cl : CallT) (f : FuncId) (args : List AV) : Prop := ∃ hs lp fuel p, LpOK Ext0 Tryd.prog lp ∧ lawOut (aBody Tryd.prog cl hs lp fuel f args []) = some (.c (.bool true), p) ∧ allP p

theorem u8_cast {a : Int} (h : (Lit.int .u8 a).wf = true) : ∃ c : UInt8, a = (c.toNat : Nat) := by
  have h' : 0 ≤ a ∧ a < 256 := by
    simp [Lit.wf, IntKind.min, IntKind.max, IntKind.signed, IntKind.bits] at h; omega
  refine ⟨UInt8.ofNat a.toNat, ?_⟩
  rw [UInt8.toNat_ofNat']
  omega

theorem broken_any (a b : List UInt8) (c : UInt8) : LawOK clU 9 [.fs 1 a.length (byts a), .c (.int .u8 (c.toNat : Nat)), .fs 1 b.length (byts b)] := by
  by_cases ha : a.length ≤ 1000000000
  · by_cases hb : b.length ≤ 1000000000
    · by_cases h1 : hiK a < a.length
      · obtain ⟨hs, p, e, hp⟩ := broken1_all a b c
        exact ⟨_, _, _, _, lpBy_cons lpBy_nil (show br1Fi.m.Nodup by decide) (br1_yes a b _ ha h1), e, hp⟩
      · by_cases h2 : hiK b < b.length
        · obtain ⟨hs, p, e, hp⟩ := broken2_all a b c
          exact ⟨_, _, _, _, lpBy_cons (lpBy_cons lpBy_nil (show br2Fi.m.Nodup by decide) (br2_yes a b _ hb h2)) (show br1Fi.m.Nodup by decide) (br1_no a b _ ha h1), e, hp⟩
        · obtain ⟨hs, p, e, hp⟩ := broken3_all a b c (hi_plain h1) (hi_plain h2)
          exact ⟨_, _, _, _, lpBy_cons (lpBy_cons lpBy_nil (show br2Fi.m.Nodup by decide) (br2_no a b _ hb h2)) (show br1Fi.m.Nodup by decide) (br1_no a b _ ha h1), e, hp⟩
    · by_cases h3 : (200 : Int) < a.length
      · refine ⟨_, lpBy [], _, _, lpBy_nil, (show lawOut (aBody Tryd.prog clU ⟨true, bs [(15, true)]⟩ (lpBy []) 60 9 [.fs 1 a.length (byts a), .c (.int .u8 (c.toNat : Nat)), .fs 1 b.length (byts b)] []) = some (.c (.bool true), [decide ((a.length : Int) > 200) = true]) by kernel_rfl), ?_, trivial⟩
        exact decide_eq_true h3
      · refine ⟨_, lpBy [], _, _, lpBy_nil, (show lawOut (aBody Tryd.prog clU ⟨true, bs [(15, false), (19, true)]⟩ (lpBy []) 60 9 [.fs 1 a.length (byts a), .c (.int .u8 (c.toNat : Nat)), .fs 1 b.length (byts b)] []) = some (.c (.bool true), [decide ((a.length : Int) > 200) = false, decide ((b.length : Int) > 200) = true]) by kernel_rfl), ?_, ?_, trivial⟩
        · exact decide_eq_false h3
        · exact decide_eq_true (by omega)
  · refine ⟨_, lpBy [], _, _, lpBy_nil, (show lawOut (aBody Tryd.prog clU ⟨true, bs [(15, true)]⟩ (lpBy []) 60 9 [.fs 1 a.length (byts a), .c (.int .u8 (c.toNat : Nat)), .fs 1 b.length (byts b)] []) = some (.c (.bool true), [decide ((a.length : Int) > 200) = true]) by kernel_rfl), ?_, trivial⟩
    exact decide_eq_true (by omega)

theorem back_any (L : List Int) (hL : ∀ n ∈ L, -9223372036854775808 ≤ n ∧ n ≤ 9223372036854775807) : LawOK clU 5 [.fs 1 L.length (ints L)] := by
  by_cases h : L.length ≤ 1000000
  · obtain ⟨hs, p, e, hp⟩ := back_all L
    have hlp : LpOK Ext0 Tryd.prog (lpBy (bkLp L)) := lpBy_cons lpBy_nil (show bkFi.m.Nodup by decide) (bk_loop L h hL)
    rw [bkLp_eq] at hlp
    exact ⟨_, _, _, _, hlp, e, hp⟩
  · refine ⟨_, lpBy [], _, _, lpBy_nil, (show lawOut (aBody Tryd.prog clU ⟨true, bs [(12, true)]⟩ (lpBy []) 60 5 [.fs 1 L.length (ints L)] []) = some (.c (.bool true), [decide ((L.length : Int) > 200) = true]) by kernel_rfl), ?_, trivial⟩
    exact decide_eq_true (by omega)

theorem parts_any (L M : List Int) (b : List UInt8) (hL : ∀ n ∈ L, -9223372036854775808 ≤ n ∧ n ≤ 9223372036854775807) (hM : ∀ n ∈ M, -9223372036854775808 ≤ n ∧ n ≤ 9223372036854775807) :
    LawOK clU 7 [.fs 1 L.length (ints L), .fs 1 b.length (byts b), .fs 1 M.length (ints M)] := by
  by_cases h : L.length ≤ 50
  · by_cases h2 : M.length ≤ 50
    · obtain ⟨hs, p, e, hp⟩ := parts_all L M b
      have hlp : LpOK Ext0 Tryd.prog (lpBy (ptLp L M b)) := lpBy_cons (lpBy_cons lpBy_nil (show pt2Fi.m.Nodup by decide) (pt2_loop b M (join (sgL L)) (by omega) hM)) (show pt1Fi.m.Nodup by decide) (pt1_loop L M b (by omega) hL)
      rw [ptLp_eq] at hlp
      exact ⟨_, _, _, _, hlp, e, hp⟩
    · refine ⟨_, lpBy [], _, _, lpBy_nil, (show lawOut (aBody Tryd.prog clU ⟨true, bs [(16, false), (20, true)]⟩ (lpBy []) 60 7 [.fs 1 L.length (ints L), .fs 1 b.length (byts b), .fs 1 M.length (ints M)] []) = some (.c (.bool true), [decide ((L.length : Int) > 50) = false, decide ((M.length : Int) > 50) = true]) by kernel_rfl), ?_, ?_, trivial⟩
      · exact decide_eq_false (by omega)
      · exact decide_eq_true (by omega)
  · refine ⟨_, lpBy [], _, _, lpBy_nil, (show lawOut (aBody Tryd.prog clU ⟨true, bs [(16, true)]⟩ (lpBy []) 60 7 [.fs 1 L.length (ints L), .fs 1 b.length (byts b), .fs 1 M.length (ints M)] []) = some (.c (.bool true), [decide ((L.length : Int) > 50) = true]) by kernel_rfl), ?_, trivial⟩
    exact decide_eq_true (by omega)

theorem plain_any (l : List UInt8) : LawOK clV 8 [.fs 1 l.length (byts l)] := by
  by_cases h : l.length ≤ 100000
  · obtain ⟨hs, p, e, hp⟩ := plain_all l
    exact ⟨_, _, _, _, plLp_ok l h, e, hp⟩
  · refine ⟨_, lpBy [], _, _, lpBy_nil, (show lawOut (aBody Tryd.prog clV ⟨true, bs [(15, true)]⟩ (lpBy []) 60 8 [.fs 1 l.length (byts l)] []) = some (.c (.bool true), [decide ((l.length : Int) > 1000) = true]) by kernel_rfl), ?_, trivial⟩
    exact decide_eq_true (by omega)

end Go.Proofs.YtfaffnemfndkfaaDoor
