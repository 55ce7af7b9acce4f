/- What the document's answers of layer 1 come to, over this seat's translation: power, Bit, Put, Join, Split, Signed, Ones, Turn, Mirror. -/
import Derived.Test.YticamagmccapoaaDoorWord2
namespace Go.Proofs.YticamagmccapoaaDoor
open Go.RowKit

theorem pow_bd (n : Nat) (h : n < 8) : (1 : Int) ≤ 2 ^ n ∧ (2 : Int) ^ n ≤ 128 := by
  have e : n = 0 ∨ n = 1 ∨ n = 2 ∨ n = 3 ∨ n = 4 ∨ n = 5 ∨ n = 6 ∨ n = 7 := by omega
  rcases e with rfl | rfl | rfl | rfl | rfl | rfl | rfl | rfl <;> decide

theorem rsplit_any (a : Int) (w : World) (h0 : 0 ≤ a) (h1 : a ≤ 65535) :
    Calls Tryd.prog 34 #[.int .u16 a] w fun e w' => e = .returned (.tuple #[.int .u8 (a / 256), .int .u8 (a % 256)]) ∧ w' = w := by
  go_enter Tryd.func34, Tryd.ntmps34
  go_wp2
  go_ret2
  exact ⟨rfl, rfl⟩

theorem tmod8 (n : Int) : (n.tmod 8 < 0 → n.tmod 8 + 8 = n % 8) ∧ (¬ n.tmod 8 < 0 → n.tmod 8 = n % 8) ∧ -8 < n.tmod 8 ∧ n.tmod 8 < 8 := by
  rcases Int.le_total 0 n with h | h
  · rw [Int.tmod_eq_emod_of_nonneg h]; omega
  · obtain ⟨m, rfl⟩ : ∃ m : Int, n = -m := ⟨-n, by omega⟩
    rw [Int.neg_tmod, Int.tmod_eq_emod_of_nonneg (show 0 ≤ m by omega)]; omega
end Go.Proofs.YticamagmccapoaaDoor
