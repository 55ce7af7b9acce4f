/- What the document's answers of layer 1 come to, over this seat's translation: power, Bit, Put, Join, Split, Signed, Ones, Turn, Mirror. -/
import Derived.Test.YtecgpdjgbdobbabWord2
namespace Go.Proofs.Ytecgpdjgbdobbab
open Go.RowKit

theorem pow_bd (n : Nat) (h : n < 8) : (1 : Int) ≤ 2 ^ n ∧ (2 : Int) ^ n ≤ 128 := by
  have e : n = 0 ∨ n = 1 ∨ n = 2 ∨ n = 3 ∨ n = 4 ∨ n = 5 ∨ n = 6 ∨ n = 7 := by omega
  rcases e with rfl | rfl | rfl | rfl | rfl | rfl | rfl | rfl <;> decide

theorem tmod8 (n : Int) : (n.tmod 8 < 0 → n.tmod 8 + 8 = n % 8) ∧ (¬ n.tmod 8 < 0 → n.tmod 8 = n % 8) ∧ -8 < n.tmod 8 ∧ n.tmod 8 < 8 := by
  rcases Int.le_total 0 n with h | h
  · rw [Int.tmod_eq_emod_of_nonneg h]; omega
  · obtain ⟨m, rfl⟩ : ∃ m : Int, n = -m := ⟨-n, by omega⟩
    rw [Int.neg_tmod, Int.tmod_eq_emod_of_nonneg (show 0 ≤ m by omega)]; omega
end Go.Proofs.Ytecgpdjgbdobbab
