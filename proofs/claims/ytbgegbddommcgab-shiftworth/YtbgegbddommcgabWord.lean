/- What the calls of layer 1 come to, over this seat's translation: Bit, Put, Turn, Mirror, Ones, Signed, Join, Split. -/
import Derived.Test.YtbgegbddommcgabRows
import Derived.Test.YtbgegbddommcgabBits
import Derived.WalkLawsBesides
import Derived.WalkSpells
namespace Go.Proofs.Ytbgegbddommcgab
open Go.RowKit

theorem bit_any (a n : Int) (w : World) (h0 : 0 ≤ a) (h1 : a ≤ 255) :
    Calls Try.prog 12 #[.int .u8 a, .int .i64 n] w fun e w' => e = .returned (.bool (bitOf a n)) ∧ w' = w := by
  by_cases hn1 : 0 ≤ n
  · by_cases hn2 : n < 8
    · go_enter Try.func12, Try.ntmps12
      go_wp2
      go_ret
      exact ⟨ret_bool (and_bit a n h0 h1 hn1 hn2), rfl⟩
    · have e := bit_out a n (by omega)
      rw [e]
      clear e
      go_enter Try.func12, Try.ntmps12
      go_wp2
      go_ret
      exact ⟨rfl, rfl⟩
  · have e := bit_out a n (by omega)
    rw [e]
    clear e
    go_enter Try.func12, Try.ntmps12
    go_wp2
    go_ret
    exact ⟨rfl, rfl⟩

theorem put_any (a n : Int) (on : Bool) (w : World) (h0 : 0 ≤ a) (h1 : a ≤ 255) :
    Calls Try.prog 14 #[.int .u8 a, .int .i64 n, .bool on] w fun e w' => e = .returned (.int .u8 (putOf a n on)) ∧ w' = w := by
  by_cases hn1 : 0 ≤ n
  · by_cases hn2 : n < 8
    · cases on
      · go_enter Try.func14, Try.ntmps14
        go_wp2
        go_ret
        exact ⟨ret_int (andNot_put a n h0 h1 hn1 hn2), rfl⟩
      · go_enter Try.func14, Try.ntmps14
        go_wp2
        go_ret
        exact ⟨ret_int (or_put a n h0 h1 hn1 hn2), rfl⟩
    · rw [put_out a n on (by omega)]
      go_enter Try.func14, Try.ntmps14
      go_wp2
      go_ret
      exact ⟨rfl, rfl⟩
  · rw [put_out a n on (by omega)]
    go_enter Try.func14, Try.ntmps14
    go_wp2
    go_ret
    exact ⟨rfl, rfl⟩

theorem turn_any (a n : Int) (w : World) (h0 : 0 ≤ a) (h1 : a ≤ 255) :
    Calls Try.prog 15 #[.int .u8 a, .int .i64 n] w fun e w' => e = .returned (.int .u8 (turnOf a n)) ∧ w' = w := by
  have hm := mask7 n
  have b0 : 0 ≤ n % 8 := by omega
  have b1 : n % 8 < 8 := by omega
  unfold turnOf
  generalize n % 8 = s at *
  go_enter Try.func15, Try.ntmps15
  go_wp2
  clear hm
  go_loop [6, 10] (fun t i => ∃ k : Nat, k ≤ 8 ∧ i = .int .i64 k ∧ t = .int .u8 (turnTo a s k)) (fun _ i => 8 - (intOf i).toNat)
  case atStart => exact ⟨0, Nat.zero_le _, rfl, rfl⟩
  case round =>
    obtain ⟨k, hk, rfl, rfl⟩ := hrel
    have tb := turnTo_bd a s k
    by_cases hlt : k < 8
    · go_wp2_with (first | (go_at_call 12; refine (bit_any _ _ _ h0 h1).mono ?_; rintro e w' ⟨rfl, rfl⟩) | (go_at_call 14; refine (put_any _ _ _ _ tb.1 tb.2).mono ?_; rintro e w' ⟨rfl, rfl⟩))
      go_round
      case rel => exact ⟨k + 1, by omega, by go_num, rfl⟩
      case measure => simp [intOf]; omega
    · go_wp2
      obtain rfl : k = 8 := by omega
      go_ret
      exact ⟨rfl, rfl⟩

end Go.Proofs.Ytbgegbddommcgab
