/- Two bytes bit by bit, and the machine's own and, either, or: plain numbers, no program in sight. -/
import Derived.Test.YtfgkchmnmnmccaaBits
namespace Go.Proofs.Ytfgkchmnmnmccaa
open Go.RowKit

def onOf (op : Int) (x y : Bool) : Bool := bif op == 4 then x && y else bif op == 5 then x != y else x || y
def eachTo (op a v : Int) : Nat → Int
  | 0 => 0
  | k + 1 => putOf (eachTo op a v k) (k : Int) (onOf op (bitOf a k) (bitOf v k))
theorem eachTo_bd (op a v : Int) (k : Nat) : 0 ≤ eachTo op a v k ∧ eachTo op a v k ≤ 255 := by
  induction k with
  | zero => exact ⟨Int.le_refl 0, (by decide : (0 : Int) ≤ 255)⟩
  | succ k ih => exact put_bd _ _ _ ih.1 ih.2

theorem bit_nat (x k : Nat) (hk : k < 8) : bitOf (x : Int) (k : Int) = x.testBit k := by
  unfold bitOf
  have h1 : (0 : Int) ≤ k := by omega
  have h2 : (k : Int) < 8 := by omega
  rw [decide_eq_true h1, decide_eq_true h2, Int.toNat_natCast, Nat.testBit_eq_decide_div_mod_eq]
  have e : ((x : Int) / 2 ^ k % 2) = ((x / 2 ^ k % 2 : Nat) : Int) := by simp
  rw [e]
  simp only [Bool.true_and]
  rw [Bool.eq_iff_iff]
  simp
  omega
theorem put_low (x k : Nat) (hk : k < 8) (hx : x < 2 ^ k) (on : Bool) : putOf (x : Int) (k : Int) on = ((x + 2 ^ k * on.toNat : Nat) : Int) := by
  unfold putOf
  have h1 : (0 : Int) ≤ k ∧ (k : Int) < 8 := by omega
  rw [if_pos h1, bit_nat x k hk, Nat.testBit_lt_two_pow hx, Int.toNat_natCast]
  cases on <;> simp
theorem mod_pow_next (x k : Nat) : x % 2 ^ (k + 1) = x % 2 ^ k + 2 ^ k * (x.testBit k).toNat := by
  rw [Nat.pow_succ, Nat.mod_mul, Nat.toNat_testBit]
theorem each_nat (op : Int) (a v r : Nat) (h : ∀ k, k < 8 → r.testBit k = onOf op (a.testBit k) (v.testBit k)) (k : Nat) (hk : k ≤ 8) : eachTo op a v k = ((r % 2 ^ k : Nat) : Int) := by
  induction k with
  | zero => simp [eachTo, Nat.mod_one]
  | succ k ih =>
    rw [eachTo, ih (by omega), bit_nat a k (by omega), bit_nat v k (by omega), ← h k (by omega), put_low _ k (by omega) (Nat.mod_lt _ (Nat.two_pow_pos k)), mod_pow_next]
theorem each_int (op : Int) (a v r : Int) (a0 : 0 ≤ a) (v0 : 0 ≤ v) (r0 : 0 ≤ r) (r1 : r ≤ 255) (h : ∀ k, k < 8 → r.toNat.testBit k = onOf op (a.toNat.testBit k) (v.toNat.testBit k)) : eachTo op a v 8 = r := by
  have e := each_nat op a.toNat v.toNat r.toNat h 8 (Nat.le_refl 8)
  rw [Int.toNat_of_nonneg a0, Int.toNat_of_nonneg v0] at e
  rw [e]
  omega
theorem bits8 (f : BitVec 8 → BitVec 8 → BitVec 8) (a v : Int) : 0 ≤ IntKind.u8.wrap ((f (BitVec.ofInt 8 a) (BitVec.ofInt 8 v)).toNat : Nat) ∧ IntKind.u8.wrap ((f (BitVec.ofInt 8 a) (BitVec.ofInt 8 v)).toNat : Nat) ≤ 255 ∧ (IntKind.u8.wrap ((f (BitVec.ofInt 8 a) (BitVec.ofInt 8 v)).toNat : Nat)).toNat = (f (BitVec.ofInt 8 a) (BitVec.ofInt 8 v)).toNat := by
  have hl := (f (BitVec.ofInt 8 a) (BitVec.ofInt 8 v)).isLt
  have e : IntKind.u8.wrap ((f (BitVec.ofInt 8 a) (BitVec.ofInt 8 v)).toNat : Nat) = ((f (BitVec.ofInt 8 a) (BitVec.ofInt 8 v)).toNat : Int) := by
    simp [IntKind.wrap, IntKind.bits, IntKind.signed]
    omega
  rw [e]
  omega
theorem ofInt8 (a : Int) (a0 : 0 ≤ a) (a1 : a ≤ 255) : (BitVec.ofInt 8 a).toNat = a.toNat := by
  rw [BitVec.toNat_ofInt]
  omega
theorem each_and (a v : Int) (a0 : 0 ≤ a) (a1 : a ≤ 255) (v0 : 0 ≤ v) (v1 : v ≤ 255) : eachTo 4 a v 8 = bits .and .u8 a v := by
  have b := bits8 (· &&& ·) a v
  refine each_int 4 a v _ a0 v0 b.1 b.2.1 ?_
  intro k _
  show (IntKind.u8.wrap ((BitVec.ofInt 8 a &&& BitVec.ofInt 8 v).toNat : Nat)).toNat.testBit k = _
  rw [b.2.2, BitVec.toNat_and, ofInt8 a a0 a1, ofInt8 v v0 v1, Nat.testBit_and]
  rfl
theorem each_xor (a v : Int) (a0 : 0 ≤ a) (a1 : a ≤ 255) (v0 : 0 ≤ v) (v1 : v ≤ 255) : eachTo 5 a v 8 = bits .xor .u8 a v := by
  have b := bits8 (· ^^^ ·) a v
  refine each_int 5 a v _ a0 v0 b.1 b.2.1 ?_
  intro k _
  show (IntKind.u8.wrap ((BitVec.ofInt 8 a ^^^ BitVec.ofInt 8 v).toNat : Nat)).toNat.testBit k = _
  rw [b.2.2, BitVec.toNat_xor, ofInt8 a a0 a1, ofInt8 v v0 v1, Nat.testBit_xor]
  rfl
theorem each_or (a v : Int) (a0 : 0 ≤ a) (a1 : a ≤ 255) (v0 : 0 ≤ v) (v1 : v ≤ 255) : eachTo 6 a v 8 = bits .or .u8 a v := by
  have b := bits8 (· ||| ·) a v
  refine each_int 6 a v _ a0 v0 b.1 b.2.1 ?_
  intro k _
  show (IntKind.u8.wrap ((BitVec.ofInt 8 a ||| BitVec.ofInt 8 v).toNat : Nat)).toNat.testBit k = _
  rw [b.2.2, BitVec.toNat_or, ofInt8 a a0 a1, ofInt8 v v0 v1, Nat.testBit_or]
  rfl
end Go.Proofs.Ytfgkchmnmnmccaa
