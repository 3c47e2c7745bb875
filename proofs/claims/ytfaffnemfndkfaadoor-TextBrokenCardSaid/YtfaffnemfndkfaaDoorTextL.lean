/- A sign's law. -/
import Derived.Test.YtfaffnemfndkfaaDoorTextK
namespace Go.Proofs.YtfaffnemfndkfaaDoor
open Go.RowKit
set_option linter.unusedVariables false
set_option linter.unusedSimpArgs false

noncomputable def sgT : Specs := sgBy [(10, smallSpec), (18, signSpec), (19, signSpec)]
noncomputable def clT : CallT := aCall Tryd.prog sgT 500 8
theorem clT_ok : CallOK Tryd.prog clT := aCall_ok mixed (sgBy_cons small_ok (sgBy_cons sign_ok (sgBy_cons rsign_ok sgBy_nil))) 500 8

theorem signlaw_1 (c : Int) : lawOut (aBody Tryd.prog clT ⟨true, bs [] ++ (bs [(9, true)])⟩ (lpBy ([])) 60 4 ([.c (.int .i64 c)]) ([])) = some ((AV.c ((Value.bool true))), [(((-9223372036854775808 : Int) : Int) ≤ (c)),
 ((c : Int) ≤ ((9223372036854775807 : Int))),
 (((-9223372036854775808 : Int) : Int) ≤ (c)),
 ((c : Int) ≤ ((9223372036854775807 : Int))),
 ((encN (sgn c) == encN (sgn c) : Bool)) = (true)]) := by kernel_rfl

theorem signlaw_all (c : Int) (h0 : -9223372036854775808 ≤ c) (h1 : c ≤ 9223372036854775807) : ∃ (h : Hints) (p : List Prop), lawOut (aBody Tryd.prog clT h (lpBy ([])) 60 4 ([.c (.int .i64 c)]) ([])) = some (.c (.bool true), p) ∧ allP p := by
  have eR := signlaw_1 c
  refine ⟨_, _, eR.trans (congrArg (fun r => some (r, _)) ?_), ?_⟩
  · rfl
  · exact ⟨h0, h1, h0, h1, by simp, trivial⟩

end Go.Proofs.YtfaffnemfndkfaaDoor
