/- What the calls of layer 1 come to, over this seat's translation: Bit, Put, Turn, Mirror, Ones, Signed, Join, Split. -/
import Derived.Test.YtecgpdjgbdobbabRows
import Derived.Test.YtecgpdjgbdobbabG00
import Derived.WalkLawsBesides
import Derived.WalkSpells
namespace Go.Proofs.Ytecgpdjgbdobbab
open Go.RowKit

theorem bit_any (a n : Int) (w : World) (h0 : 0 ≤ a) (h1 : a ≤ 255) :
    Calls Try.prog 8 #[.int .u8 a, .int .i64 n] w fun e w' => e = .returned (.bool (bitOf a n)) ∧ w' = w := by
  by_cases hn1 : 0 ≤ n
  · by_cases hn2 : n < 8
    · go_enter Try.func8, Try.ntmps8
      go_wp2
      go_ret
      exact ⟨ret_bool (and_bit a n h0 h1 hn1 hn2), rfl⟩
    · have e := bit_out a n (by omega)
      rw [e]
      clear e
      go_enter Try.func8, Try.ntmps8
      go_wp2
      go_ret
      exact ⟨rfl, rfl⟩
  · have e := bit_out a n (by omega)
    rw [e]
    clear e
    go_enter Try.func8, Try.ntmps8
    go_wp2
    go_ret
    exact ⟨rfl, rfl⟩

end Go.Proofs.Ytecgpdjgbdobbab
