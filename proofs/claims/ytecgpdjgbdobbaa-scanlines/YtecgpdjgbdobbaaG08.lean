/- What the calls of layer 1 come to, over this seat's translation: Signed, Join, Split, digit, Hex8, Hex16. What the document's answers of layer 1 come to, over this seat's translation: power, Bit, Put, Join, Split, Signed, Ones, Turn, Mirror. -/
import Derived.Test.YtecgpdjgbdobbaaG05
import Derived.Test.YtecgpdjgbdobbaaG07
namespace Go.Proofs.Ytecgpdjgbdobbaa
open Go.RowKit

theorem signed_fin : ∀ a : Fin 256, IntKind.i64.wrap (IntKind.i8.wrap (a.val : Int)) = signedOf (a.val : Int) := by decide +kernel
theorem signed_wrap (a : Int) (h0 : 0 ≤ a) (h1 : a ≤ 255) : wrap64 (IntKind.i8.wrap a) = signedOf a := by
  have e := fin8 (p := fun a => IntKind.i64.wrap (IntKind.i8.wrap a) = signedOf a) signed_fin a h0 h1
  rw [← e, IntKind.wrap_i64]
  unfold wrap64
  rfl
theorem or_join (a b : Int) (h0 : 0 ≤ a) (h1 : a ≤ 255) (h2 : 0 ≤ b) (h3 : b ≤ 255) : bits .or .u16 (a * 256) b = a * 256 + b := by
  obtain ⟨x, rfl⟩ := Int.eq_ofNat_of_zero_le h0
  obtain ⟨y, rfl⟩ := Int.eq_ofNat_of_zero_le h2
  rw [u16_or _ _ (by omega) (by omega) (by omega) (by omega)]
  have e1 : ((x : Int) * 256).toNat = x * 256 := by omega
  have e2 : ((y : Int)).toNat = y := by omega
  rw [e1, e2, nat_join 8 (x * 256) y (by omega) (by omega)]
  omega
def hexs : List UInt8 := [48, 49, 50, 51, 52, 53, 54, 55, 56, 57, 65, 66, 67, 68, 69, 70]
def hexc (n : Int) : UInt8 := hexs.getD n.toNat 0
def hex8Of (a : Int) : ByteArray := ⟨#[hexc (a / 16), hexc (a % 16)]⟩
theorem hex_get (i : Nat) (h : i < (ByteArray.mk #[48, 49, 50, 51, 52, 53, 54, 55, 56, 57, 65, 66, 67, 68, 69, 70]).size) :
    (ByteArray.mk #[48, 49, 50, 51, 52, 53, 54, 55, 56, 57, 65, 66, 67, 68, 69, 70])[i]'h = hexs.getD i 0 := by
  have e : ∀ k : Fin 16, (ByteArray.mk #[48, 49, 50, 51, 52, 53, 54, 55, 56, 57, 65, 66, 67, 68, 69, 70])[k.val]'(by exact k.isLt) = hexs.getD k.val 0 := by decide +kernel
  exact e ⟨i, h⟩
theorem conv2 (w : World) (x y : Int) :
    (convert 22 9 (.slice (some ⟨w.heap.size, 0, none⟩) 2 2)).run Try.prog ((w.alloc (.cells #[.int .u8 x, .int .u8 y] 5)).drew) = .ok (.string ⟨#[UInt8.ofNat x.toNat, UInt8.ofNat y.toNat]⟩) ((w.alloc (.cells #[.int .u8 x, .int .u8 y] 5)).drew) := by
  rw [run_convert_bytes_string _ 22 9 5 _ _ _ Try.underlying22 Try.underlying5 Try.underlying9, run_bytesToString _ _ 2 2 [x, y] ?_]
  · rfl
  · have h := run_loadCells_list (P := Try.prog) ((w.alloc (.cells #[.int .u8 x, .int .u8 y] 5)).drew) ⟨w.heap.size, 0, none⟩ [.int .u8 x, .int .u8 y] (fun j v hj => by
      match j, hj with
      | 0, hj => simp at hj; subst hj; simp [Addr.add]
      | 1, hj => simp at hj; subst hj; simp [Addr.add]
      | j + 2, hj => simp at hj)
    exact h
theorem ret_str {a b : ByteArray} (h : a = b) : Ending.returned (.string a) = .returned (.string b) := by rw [h]
def hex16Of (a : Int) : ByteArray := hex8Of (a / 256) ++ hex8Of (a % 256)
def dokOf (r : Int) : Bool := (decide (48 ≤ r) && decide (r ≤ 57)) || (decide (65 ≤ r) && decide (r ≤ 70)) || (decide (97 ≤ r) && decide (r ≤ 102))
def dvalOf (r : Int) : Int := if 48 ≤ r ∧ r ≤ 57 then r - 48 else if 65 ≤ r ∧ r ≤ 70 then r - 55 else if 97 ≤ r ∧ r ≤ 102 then r - 87 else 0
end Go.Proofs.Ytecgpdjgbdobbaa
namespace Go.Proofs.Ytecgpdjgbdobbaa
open Go.RowKit

theorem power_any (n : Nat) (w : World) (h : n ≤ 8) :
    Calls Try.prog 47 #[.int .i64 n] w fun e w' => e = .returned (.int .i64 (2 ^ n)) ∧ w' = w := by
  go_enter Try.func47, Try.ntmps47
  go_wp2
  go_loop [3, 4] (fun p i => ∃ k : Nat, k ≤ n ∧ i = .int .i64 k ∧ p = .int .i64 (2 ^ k)) (fun _ i => n - (intOf i).toNat)
  case atStart => exact ⟨0, Nat.zero_le _, rfl, rfl⟩
  case round =>
    obtain ⟨k, hk, rfl, rfl⟩ := hrel
    have hp : (1 : Int) ≤ 2 ^ k ∧ (2 : Int) ^ k ≤ 256 := by
      have e : k = 0 ∨ k = 1 ∨ k = 2 ∨ k = 3 ∨ k = 4 ∨ k = 5 ∨ k = 6 ∨ k = 7 ∨ k = 8 := by omega
      rcases e with rfl | rfl | rfl | rfl | rfl | rfl | rfl | rfl | rfl <;> decide
    obtain ⟨hp1, hp2⟩ := hp
    have hs : Hid ((2 : Int) ^ (k + 1) = 2 ^ k * 2) := Int.pow_succ 2 k
    by_cases hlt : k < n
    · go_wp2
      go_round
      case rel => exact ⟨k + 1, by omega, by go_num, by rw [hs.out]⟩
      case measure => simp [intOf]; omega
    · go_wp2
      obtain rfl : k = n := by omega
      go_ret
      exact ⟨rfl, rfl⟩

theorem pow_bd (n : Nat) (h : n < 8) : (1 : Int) ≤ 2 ^ n ∧ (2 : Int) ^ n ≤ 128 := by
  have e : n = 0 ∨ n = 1 ∨ n = 2 ∨ n = 3 ∨ n = 4 ∨ n = 5 ∨ n = 6 ∨ n = 7 := by omega
  rcases e with rfl | rfl | rfl | rfl | rfl | rfl | rfl | rfl <;> decide

theorem rbit_any (a n : Int) (w : World) (h0 : 0 ≤ a) (h1 : a ≤ 255) :
    Calls Try.prog 31 #[.int .u8 a, .int .i64 n] w fun e w' => e = .returned (.bool (bitOf a n)) ∧ w' = w := by
  by_cases hn1 : n < 0
  · rw [bit_out a n (by omega)]
    go_enter Try.func31, Try.ntmps31
    go_wp2
    go_ret
    exact ⟨rfl, rfl⟩
  · by_cases hn2 : 7 < n
    · rw [bit_out a n (by omega)]
      go_enter Try.func31, Try.ntmps31
      go_wp2
      go_ret
      exact ⟨rfl, rfl⟩
    · obtain ⟨m, rfl⟩ := Int.eq_ofNat_of_zero_le (show 0 ≤ n by omega)
      obtain ⟨p1, p2⟩ := pow_bd m (by omega)
      have q0 : 0 ≤ a / 2 ^ m := Int.ediv_nonneg h0 (by omega)
      have hb : Hid ((a / 2 ^ m % 2 == 1) = bitOf a m) := fin8n (p := fun a n => (a / (2 : Int) ^ n.toNat % 2 == 1) = bitOf a n) quo_fin a m h0 h1 (by omega) (by omega)
      go_enter Try.func31, Try.ntmps31
      go_wp2_with (go_at_call 47; refine (power_any _ _ (by omega)).mono ?_; rintro e w' ⟨rfl, rfl⟩)
      go_ret
      exact ⟨ret_bool hb.out, rfl⟩

theorem rput_any (a n : Int) (on : Bool) (w : World) (h0 : 0 ≤ a) (h1 : a ≤ 255) :
    Calls Try.prog 75 #[.int .u8 a, .int .i64 n, .bool on] w fun e w' => e = .returned (.int .u8 (putOf a n on)) ∧ w' = w := by
  by_cases hn1 : n < 0
  · rw [put_out a n on (by omega)]
    go_enter Try.func75, Try.ntmps75
    go_wp2
    go_ret
    exact ⟨rfl, rfl⟩
  · by_cases hn2 : 7 < n
    · rw [put_out a n on (by omega)]
      go_enter Try.func75, Try.ntmps75
      go_wp2
      go_ret
      exact ⟨rfl, rfl⟩
    · obtain ⟨m, rfl⟩ := Int.eq_ofNat_of_zero_le (show 0 ≤ n by omega)
      obtain ⟨p1, p2⟩ := pow_bd m (by omega)
      have pb := put_bd a m on h0 h1
      have HP : Hid (putOf a m on = a - (if bitOf a m then 2 ^ m else 0) + (if on then 2 ^ m else 0)) := by
        unfold Hid putOf
        rw [if_pos ⟨by omega, by omega⟩]
        rfl
      cases hb : bitOf a m
      · have HB : Hid (bitOf a m = false) := hb
        clear hb
        cases on
        · have hv : Hid (putOf a m false = a) := by unfold Hid; rw [HP.out, HB.out]; simp
          clear HP pb
          go_enter Try.func75, Try.ntmps75
          go_wp2_with (first | (go_at_call 47; refine (power_any _ _ (by omega)).mono ?_; rintro e w' ⟨rfl, rfl⟩) | (go_at_call 31; refine (rbit_any _ _ _ h0 h1).mono ?_; rintro e w' ⟨rfl, rfl⟩; rw [HB.out]))
          go_ret
          exact ⟨ret_int hv.out.symm, rfl⟩
        · have hv : Hid (putOf a m true = a + 2 ^ m) := by unfold Hid; rw [HP.out, HB.out]; simp
          have b2 : a + 2 ^ m ≤ 255 := by have := hv.out; omega
          clear HP pb
          go_enter Try.func75, Try.ntmps75
          go_wp2_with (first | (go_at_call 47; refine (power_any _ _ (by omega)).mono ?_; rintro e w' ⟨rfl, rfl⟩) | (go_at_call 31; refine (rbit_any _ _ _ h0 h1).mono ?_; rintro e w' ⟨rfl, rfl⟩; rw [HB.out]))
          go_ret
          exact ⟨ret_int hv.out.symm, rfl⟩
      · have HB : Hid (bitOf a m = true) := hb
        clear hb
        cases on
        · have hv : Hid (putOf a m false = a - 2 ^ m) := by unfold Hid; rw [HP.out, HB.out]; simp
          have b2 : 0 ≤ a - 2 ^ m := by have := hv.out; omega
          clear HP pb
          go_enter Try.func75, Try.ntmps75
          go_wp2_with (first | (go_at_call 47; refine (power_any _ _ (by omega)).mono ?_; rintro e w' ⟨rfl, rfl⟩) | (go_at_call 31; refine (rbit_any _ _ _ h0 h1).mono ?_; rintro e w' ⟨rfl, rfl⟩; rw [HB.out]))
          go_ret
          exact ⟨ret_int hv.out.symm, rfl⟩
        · have hv : Hid (putOf a m true = a) := by unfold Hid; rw [HP.out, HB.out]; simp
          clear HP pb
          go_enter Try.func75, Try.ntmps75
          go_wp2_with (first | (go_at_call 47; refine (power_any _ _ (by omega)).mono ?_; rintro e w' ⟨rfl, rfl⟩) | (go_at_call 31; refine (rbit_any _ _ _ h0 h1).mono ?_; rintro e w' ⟨rfl, rfl⟩; rw [HB.out]))
          go_ret
          exact ⟨ret_int hv.out.symm, rfl⟩

theorem rsigned_any (a : Int) (w : World) (h0 : 0 ≤ a) (h1 : a ≤ 255) :
    Calls Try.prog 76 #[.int .u8 a] w fun e w' => e = .returned (.int .i64 (signedOf a)) ∧ w' = w := by
  by_cases h : a < 128
  · have e : signedOf a = a := by unfold signedOf; rw [if_pos h]
    rw [e]; clear e
    go_enter Try.func76, Try.ntmps76
    go_wp2
    go_ret
    exact ⟨rfl, rfl⟩
  · have e : signedOf a = a - 256 := by unfold signedOf; rw [if_neg h]
    rw [e]; clear e
    go_enter Try.func76, Try.ntmps76
    go_wp2
    go_ret
    exact ⟨rfl, rfl⟩

theorem tmod8 (n : Int) : (n.tmod 8 < 0 → n.tmod 8 + 8 = n % 8) ∧ (¬ n.tmod 8 < 0 → n.tmod 8 = n % 8) ∧ -8 < n.tmod 8 ∧ n.tmod 8 < 8 := by
  rcases Int.le_total 0 n with h | h
  · rw [Int.tmod_eq_emod_of_nonneg h]; omega
  · obtain ⟨m, rfl⟩ : ∃ m : Int, n = -m := ⟨-n, by omega⟩
    rw [Int.neg_tmod, Int.tmod_eq_emod_of_nonneg (show 0 ≤ m by omega)]; omega
end Go.Proofs.Ytecgpdjgbdobbaa
