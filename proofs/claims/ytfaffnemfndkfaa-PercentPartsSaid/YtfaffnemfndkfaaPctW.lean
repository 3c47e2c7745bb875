/- The laws, over what a call is handed. -/
import Derived.Test.YtfaffnemfndkfaaPctH
namespace Go.Proofs.Ytfaffnemfndkfaa
open Go.RowKit
set_option linter.unusedVariables false
set_option linter.unusedSimpArgs false

theorem tells_walk (a0 : Int) (a1 : Int) (a2 : ByteArray) (w0 : (Lit.int .i64 a0).wf = true) (w1 : (Lit.int .u8 a1).wf = true) (w2 : a2.size ≤ maxLen) (w : World) :
    Calls Try.prog 3 #[.int .i64 a0, .int .u8 a1, .string a2] w fun e w' => e = .returned (.bool true) ∧ Below w.heap.size w w' := by
  obtain ⟨h0, h1⟩ := u8_wf w1
  obtain ⟨⟨l⟩⟩ := a2
  obtain ⟨hs, p, e, hp⟩ := tells_all a0 a1 l h0 h1
  exact law_conc mixed clT_ok [.int .i64 a0, .int .u8 a1, str l] (glOK_none w) ⟨_, _, _, _, lpBy_nil, e, hp⟩

theorem back_all' (l : List UInt8) (s : Int) : ∃ hs lp fuel p, LpOK Ext0 Try.prog lp ∧ lawOut (aBody Try.prog clL hs lp fuel 4 [.c (str l), .c (.int .i64 s)] []) = some (.c (.bool true), p) ∧ allP p := by
  by_cases h : l.length ≤ 1000000000
  · obtain ⟨hs, p, e, hp⟩ := back_all l s
    exact ⟨_, _, _, _, lpBy_cons lpBy_nil (by simp) (back_loop l s h), e, hp⟩
  · refine ⟨_, lpBy [], _, _, lpBy_nil, (show lawOut (aBody Try.prog clL ⟨true, bs [(11, true)]⟩ (lpBy []) 60 4 [.c (str l), .c (.int .i64 s)] []) = some (.c (.bool true), [decide ((l.length : Int) > 1000) = true]) by kernel_rfl), ?_, trivial⟩
    exact decide_eq_true (by omega)

theorem back_walk (a0 : ByteArray) (a1 : Int) (w0 : a0.size ≤ maxLen) (w1 : (Lit.int .i64 a1).wf = true) (w : World) :
    Calls Try.prog 4 #[.string a0, .int .i64 a1] w fun e w' => e = .returned (.bool true) ∧ Below w.heap.size w w' := by
  obtain ⟨⟨l⟩⟩ := a0
  exact law_conc mixed clL_ok [str l, .int .i64 a1] (glOK_none w) (back_all' l a1)

theorem once_all' (l : List UInt8) (s : Int) : ∃ hs lp fuel p, LpOK Ext0 Try.prog lp ∧ lawOut (aBody Try.prog clL hs lp fuel 5 [.c (str l), .c (.int .i64 s)] []) = some (.c (.bool true), p) ∧ allP p := by
  by_cases h : l.length ≤ 100000000
  · obtain ⟨hs, p, e, hp⟩ := once_all l s
    exact ⟨_, _, _, _, onLp_ok l s h, e, hp⟩
  · refine ⟨_, lpBy [], _, _, lpBy_nil, (show lawOut (aBody Try.prog clL ⟨true, bs [(13, true)]⟩ (lpBy []) 60 5 [.c (str l), .c (.int .i64 s)] []) = some (.c (.bool true), [decide ((l.length : Int) > 1000) = true]) by kernel_rfl), ?_, trivial⟩
    exact decide_eq_true (by omega)

theorem once_walk (a0 : ByteArray) (a1 : Int) (w0 : a0.size ≤ maxLen) (w1 : (Lit.int .i64 a1).wf = true) (w : World) :
    Calls Try.prog 5 #[.string a0, .int .i64 a1] w fun e w' => e = .returned (.bool true) ∧ Below w.heap.size w w' := by
  obtain ⟨⟨l⟩⟩ := a0
  exact law_conc mixed clL_ok [str l, .int .i64 a1] (glOK_none w) (once_all' l a1)

theorem parts_walk (a0 : ByteArray) (a1 : ByteArray) (a2 : Int) (w0 : a0.size ≤ maxLen) (w1 : a1.size ≤ maxLen) (w2 : (Lit.int .i64 a2).wf = true) (w : World) :
    Calls Try.prog 7 #[.string a0, .string a1, .int .i64 a2] w fun e w' => e = .returned (.bool true) ∧ Below w.heap.size w w' := by
  obtain ⟨⟨a⟩⟩ := a0
  obtain ⟨⟨b⟩⟩ := a1
  obtain ⟨hs, p, e, hp⟩ := parts_all a b a2
  exact law_conc mixed clL_ok [str a, str b, .int .i64 a2] (glOK_none w) ⟨_, _, _, _, lpBy_nil, e, hp⟩

end Go.Proofs.Ytfaffnemfndkfaa
