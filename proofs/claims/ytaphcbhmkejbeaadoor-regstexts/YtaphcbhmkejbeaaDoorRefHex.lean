/- What the document's answers of layer 1 come to, over this seat's translation: sign, Hex8, Hex16. -/
import Derived.Test.YtaphcbhmkejbeaaDoorRef
namespace Go.Proofs.YtaphcbhmkejbeaaDoor
open Go.RowKit

theorem slice_hex_fin : ∀ n : Fin 16, (ByteArray.mk #[48, 49, 50, 51, 52, 53, 54, 55, 56, 57, 65, 66, 67, 68, 69, 70]).extract n.val (n.val + 1) = ByteArray.mk #[hexc (n.val : Int)] := by decide +kernel
theorem sign_any (n : Int) (w : World) (h0 : 0 ≤ n) (h1 : n < 16) :
    Calls Tryd.prog 51 #[.int .i64 n] w fun e w' => e = .returned (.string (ByteArray.mk #[hexc n])) ∧ w' = w := by
  obtain ⟨m, rfl⟩ := Int.eq_ofNat_of_zero_le h0
  have hm : m < 16 := by omega
  go_enter Tryd.func51, Tryd.ntmps51
  go_wp2
  go_ret
  exact ⟨ret_str (slice_hex_fin ⟨m, hm⟩), rfl⟩

theorem rhex8_any (a : Int) (w : World) (h0 : 0 ≤ a) (h1 : a ≤ 255) :
    Calls Tryd.prog 49 #[.int .u8 a] w fun e w' => e = .returned (.string (hex8Of a)) ∧ w' = w := by
  go_enter Tryd.func49, Tryd.ntmps49
  go_wp2_with fail
  refine (sign_any _ _ (by omega) (by omega)).mono ?_
  rintro e w1 ⟨rfl, rfl⟩
  go_wp2_with fail
  refine (sign_any _ _ (by omega) (by omega)).mono ?_
  rintro e w1 ⟨rfl, rfl⟩
  go_wp2
  go_ret
  exact ⟨ret_str rfl, rfl⟩

theorem rhex16_any (a : Int) (w : World) (h0 : 0 ≤ a) (h1 : a ≤ 65535) :
    Calls Tryd.prog 43 #[.int .u16 a] w fun e w' => e = .returned (.string (hex16Of a)) ∧ w' = w := by
  have b1 : 0 ≤ a / 256 := by omega
  have b2 : a / 256 ≤ 255 := by omega
  have b3 : 0 ≤ a % 256 := by omega
  have b4 : a % 256 ≤ 255 := by omega
  go_enter Tryd.func43, Tryd.ntmps43
  go_wp2_with fail
  refine (rsplit_any _ _ h0 h1).mono ?_
  rintro e w1 ⟨rfl, rfl⟩
  go_wp2_with fail
  refine (rhex8_any _ _ b1 b2).mono ?_
  rintro e w1 ⟨rfl, rfl⟩
  go_wp2_with fail
  refine (rhex8_any _ _ b3 b4).mono ?_
  rintro e w2 ⟨rfl, rfl⟩
  go_wp2
  go_ret
  exact ⟨rfl, rfl⟩
end Go.Proofs.YtaphcbhmkejbeaaDoor
