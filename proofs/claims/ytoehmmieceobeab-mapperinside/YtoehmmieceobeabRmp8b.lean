/- What the document's answers of layer 8 come to: Rom, Ram, Reg. -/
import Derived.Test.YtoehmmieceobeabRmp8
namespace Go.Proofs.Ytoehmmieceobeab
open Go.RowKit
set_option linter.unusedVariables false
set_option linter.unusedSimpArgs false

theorem mod_bd (x s : Int) (h0 : 0 ≤ x) (h1 : x ≤ 2147483647) (hs : 1 ≤ s) : Int.tmod x s = x % s ∧ 0 ≤ x % s ∧ x % s ≤ 2147483647 := by
  refine ⟨Int.tmod_eq_emod_of_nonneg h0, Int.emod_nonneg x (by omega), ?_⟩
  by_cases q : x < s
  · rw [Int.emod_eq_of_lt h0 q]; exact h1
  · have := Int.emod_lt_of_pos x (show 0 < s by omega); omega
end Go.Proofs.Ytoehmmieceobeab
