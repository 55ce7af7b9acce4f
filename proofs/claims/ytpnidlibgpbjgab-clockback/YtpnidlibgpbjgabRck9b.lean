/- What the document's answers of layer 9 come to: Read, Write, Run. -/
import Derived.Test.YtpnidlibgpbjgabRck9
namespace Go.Proofs.Ytpnidlibgpbjgab
open Go.RowKit
set_option linter.unusedVariables false
set_option linter.unusedSimpArgs false

theorem regs_of (r : Int) : r = 8 ∨ r = 9 ∨ r = 10 ∨ r = 11 ∨ r = 12 ∨ (r ≠ 8 ∧ r ≠ 9 ∧ r ≠ 10 ∧ r ≠ 11 ∧ r ≠ 12) := by omega
theorem readC_no (c : Ck) (r : Int) (h : r ≠ 8 ∧ r ≠ 9 ∧ r ≠ 10 ∧ r ≠ 11 ∧ r ≠ 12) : readC c r = 0 ∧ regE r = 7 := by
  obtain ⟨h1, h2, h3, h4, h5⟩ := h
  refine ⟨by unfold readC readV; rw [if_neg h1, if_neg h2, if_neg h3, if_neg h4, if_neg h5], ?_⟩
  unfold regE regOk
  simp [h1, h2, h3, h4, h5]
theorem writeC_no (c : Ck) (r v : Int) (h : r ≠ 8 ∧ r ≠ 9 ∧ r ≠ 10 ∧ r ≠ 11 ∧ r ≠ 12) : writeC c r v = ck0 := by
  obtain ⟨h1, h2, h3, h4, h5⟩ := h
  unfold writeC writeN; rw [if_neg h1, if_neg h2, if_neg h3, if_neg h4, if_neg h5]
end Go.Proofs.Ytpnidlibgpbjgab
