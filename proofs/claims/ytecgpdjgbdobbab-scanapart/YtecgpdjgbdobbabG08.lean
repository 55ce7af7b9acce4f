/- What the calls of layer 1 come to, over this seat's translation: Signed, Join, Split, digit, Hex8, Hex16. What the document's answers of layer 1 come to, over this seat's translation: power, Bit, Put, Join, Split, Signed, Ones, Turn, Mirror. -/
import Derived.Test.YtecgpdjgbdobbabG05
import Derived.Test.YtecgpdjgbdobbabG07
namespace Go.Proofs.Ytecgpdjgbdobbab
open Go.RowKit

theorem signed_fin : ∀ a : Fin 256, IntKind.i64.wrap (IntKind.i8.wrap (a.val : Int)) = signedOf (a.val : Int) := by decide +kernel
theorem signed_wrap (a : Int) (h0 : 0 ≤ a) (h1 : a ≤ 255) : wrap64 (IntKind.i8.wrap a) = signedOf a := by
  have e := fin8 (p := fun a => IntKind.i64.wrap (IntKind.i8.wrap a) = signedOf a) signed_fin a h0 h1
  rw [← e, IntKind.wrap_i64]
  unfold wrap64
  rfl
theorem or_join (a b : Int) (h0 : 0 ≤ a) (h1 : a ≤ 255) (h2 : 0 ≤ b) (h3 : b ≤ 255) : bits .or .u16 (a * 256) b = a * 256 + b := by
  obtain ⟨x, rfl⟩ := Int.eq_ofNat_of_zero_le h0
  obtain ⟨y, rfl⟩ := Int.eq_ofNat_of_zero_le h2
  rw [u16_or _ _ (by omega) (by omega) (by omega) (by omega)]
  have e1 : ((x : Int) * 256).toNat = x * 256 := by omega
  have e2 : ((y : Int)).toNat = y := by omega
  rw [e1, e2, nat_join 8 (x * 256) y (by omega) (by omega)]
  omega
def hexs : List UInt8 := [48, 49, 50, 51, 52, 53, 54, 55, 56, 57, 65, 66, 67, 68, 69, 70]
def hexc (n : Int) : UInt8 := hexs.getD n.toNat 0
def hex8Of (a : Int) : ByteArray := ⟨#[hexc (a / 16), hexc (a % 16)]⟩
theorem hex_get (i : Nat) (h : i < (ByteArray.mk #[48, 49, 50, 51, 52, 53, 54, 55, 56, 57, 65, 66, 67, 68, 69, 70]).size) :
    (ByteArray.mk #[48, 49, 50, 51, 52, 53, 54, 55, 56, 57, 65, 66, 67, 68, 69, 70])[i]'h = hexs.getD i 0 := by
  have e : ∀ k : Fin 16, (ByteArray.mk #[48, 49, 50, 51, 52, 53, 54, 55, 56, 57, 65, 66, 67, 68, 69, 70])[k.val]'(by exact k.isLt) = hexs.getD k.val 0 := by decide +kernel
  exact e ⟨i, h⟩
theorem conv2 (w : World) (x y : Int) :
    (convert 22 9 (.slice (some ⟨w.heap.size, 0, none⟩) 2 2)).run Try.prog ((w.alloc (.cells #[.int .u8 x, .int .u8 y] 5)).drew) = .ok (.string ⟨#[UInt8.ofNat x.toNat, UInt8.ofNat y.toNat]⟩) ((w.alloc (.cells #[.int .u8 x, .int .u8 y] 5)).drew) := by
  rw [run_convert_bytes_string _ 22 9 5 _ _ _ Try.underlying22 Try.underlying5 Try.underlying9, run_bytesToString _ _ 2 2 [x, y] ?_]
  · rfl
  · have h := run_loadCells_list (P := Try.prog) ((w.alloc (.cells #[.int .u8 x, .int .u8 y] 5)).drew) ⟨w.heap.size, 0, none⟩ [.int .u8 x, .int .u8 y] (fun j v hj => by
      match j, hj with
      | 0, hj => simp at hj; subst hj; simp [Addr.add]
      | 1, hj => simp at hj; subst hj; simp [Addr.add]
      | j + 2, hj => simp at hj)
    exact h
theorem ret_str {a b : ByteArray} (h : a = b) : Ending.returned (.string a) = .returned (.string b) := by rw [h]
def hex16Of (a : Int) : ByteArray := hex8Of (a / 256) ++ hex8Of (a % 256)
def dokOf (r : Int) : Bool := (decide (48 ≤ r) && decide (r ≤ 57)) || (decide (65 ≤ r) && decide (r ≤ 70)) || (decide (97 ≤ r) && decide (r ≤ 102))
def dvalOf (r : Int) : Int := if 48 ≤ r ∧ r ≤ 57 then r - 48 else if 65 ≤ r ∧ r ≤ 70 then r - 55 else if 97 ≤ r ∧ r ≤ 102 then r - 87 else 0
end Go.Proofs.Ytecgpdjgbdobbab
namespace Go.Proofs.Ytecgpdjgbdobbab
open Go.RowKit

theorem pow_bd (n : Nat) (h : n < 8) : (1 : Int) ≤ 2 ^ n ∧ (2 : Int) ^ n ≤ 128 := by
  have e : n = 0 ∨ n = 1 ∨ n = 2 ∨ n = 3 ∨ n = 4 ∨ n = 5 ∨ n = 6 ∨ n = 7 := by omega
  rcases e with rfl | rfl | rfl | rfl | rfl | rfl | rfl | rfl <;> decide

theorem tmod8 (n : Int) : (n.tmod 8 < 0 → n.tmod 8 + 8 = n % 8) ∧ (¬ n.tmod 8 < 0 → n.tmod 8 = n % 8) ∧ -8 < n.tmod 8 ∧ n.tmod 8 < 8 := by
  rcases Int.le_total 0 n with h | h
  · rw [Int.tmod_eq_emod_of_nonneg h]; omega
  · obtain ⟨m, rfl⟩ : ∃ m : Int, n = -m := ⟨-n, by omega⟩
    rw [Int.neg_tmod, Int.tmod_eq_emod_of_nonneg (show 0 ≤ m by omega)]; omega
end Go.Proofs.Ytecgpdjgbdobbab
