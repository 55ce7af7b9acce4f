/- What the document's answers of layer 1 come to, over this seat's translation: power, Bit, Put, Join, Split, Signed, Ones, Turn, Mirror. -/
import Derived.Test.YtbflhpffojlpgaaDoorWord2
namespace Go.Proofs.YtbflhpffojlpgaaDoor
open Go.RowKit

theorem power_any (n : Nat) (w : World) (h : n ≤ 8) :
    Calls Tryd.prog 51 #[.int .i64 n] w fun e w' => e = .returned (.int .i64 (2 ^ n)) ∧ w' = w := by
  go_enter Tryd.func51, Tryd.ntmps51
  go_wp2
  go_loop [3, 4] (fun p i => ∃ k : Nat, k ≤ n ∧ i = .int .i64 k ∧ p = .int .i64 (2 ^ k)) (fun _ i => n - (intOf i).toNat)
  case atStart => exact ⟨0, Nat.zero_le _, rfl, rfl⟩
  case round =>
    obtain ⟨k, hk, rfl, rfl⟩ := hrel
    have hp : (1 : Int) ≤ 2 ^ k ∧ (2 : Int) ^ k ≤ 256 := by
      have e : k = 0 ∨ k = 1 ∨ k = 2 ∨ k = 3 ∨ k = 4 ∨ k = 5 ∨ k = 6 ∨ k = 7 ∨ k = 8 := by omega
      rcases e with rfl | rfl | rfl | rfl | rfl | rfl | rfl | rfl | rfl <;> decide
    obtain ⟨hp1, hp2⟩ := hp
    have hs : Hid ((2 : Int) ^ (k + 1) = 2 ^ k * 2) := Int.pow_succ 2 k
    by_cases hlt : k < n
    · go_wp2
      go_round
      case rel => exact ⟨k + 1, by omega, by go_num, by rw [hs.out]⟩
      case measure => simp [intOf]; omega
    · go_wp2
      obtain rfl : k = n := by omega
      go_ret
      exact ⟨rfl, rfl⟩

theorem pow_bd (n : Nat) (h : n < 8) : (1 : Int) ≤ 2 ^ n ∧ (2 : Int) ^ n ≤ 128 := by
  have e : n = 0 ∨ n = 1 ∨ n = 2 ∨ n = 3 ∨ n = 4 ∨ n = 5 ∨ n = 6 ∨ n = 7 := by omega
  rcases e with rfl | rfl | rfl | rfl | rfl | rfl | rfl | rfl <;> decide

theorem rbit_any (a n : Int) (w : World) (h0 : 0 ≤ a) (h1 : a ≤ 255) :
    Calls Tryd.prog 50 #[.int .u8 a, .int .i64 n] w fun e w' => e = .returned (.bool (bitOf a n)) ∧ w' = w := by
  by_cases hn1 : n < 0
  · rw [bit_out a n (by omega)]
    go_enter Tryd.func50, Tryd.ntmps50
    go_wp2
    go_ret
    exact ⟨rfl, rfl⟩
  · by_cases hn2 : 7 < n
    · rw [bit_out a n (by omega)]
      go_enter Tryd.func50, Tryd.ntmps50
      go_wp2
      go_ret
      exact ⟨rfl, rfl⟩
    · obtain ⟨m, rfl⟩ := Int.eq_ofNat_of_zero_le (show 0 ≤ n by omega)
      obtain ⟨p1, p2⟩ := pow_bd m (by omega)
      have q0 : 0 ≤ a / 2 ^ m := Int.ediv_nonneg h0 (by omega)
      have hb : Hid ((a / 2 ^ m % 2 == 1) = bitOf a m) := fin8n (p := fun a n => (a / (2 : Int) ^ n.toNat % 2 == 1) = bitOf a n) quo_fin a m h0 h1 (by omega) (by omega)
      go_enter Tryd.func50, Tryd.ntmps50
      go_wp2_with (go_at_call 51; refine (power_any _ _ (by omega)).mono ?_; rintro e w' ⟨rfl, rfl⟩)
      go_ret
      exact ⟨ret_bool hb.out, rfl⟩

theorem tmod8 (n : Int) : (n.tmod 8 < 0 → n.tmod 8 + 8 = n % 8) ∧ (¬ n.tmod 8 < 0 → n.tmod 8 = n % 8) ∧ -8 < n.tmod 8 ∧ n.tmod 8 < 8 := by
  rcases Int.le_total 0 n with h | h
  · rw [Int.tmod_eq_emod_of_nonneg h]; omega
  · obtain ⟨m, rfl⟩ : ∃ m : Int, n = -m := ⟨-n, by omega⟩
    rw [Int.neg_tmod, Int.tmod_eq_emod_of_nonneg (show 0 ≤ m by omega)]; omega
end Go.Proofs.YtbflhpffojlpgaaDoor
