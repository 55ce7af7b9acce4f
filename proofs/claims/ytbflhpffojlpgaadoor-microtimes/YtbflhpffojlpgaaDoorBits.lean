/- Plain numbers of layer 1: what a bit, a byte with a bit put, a turned and a mirrored byte come to; no program in sight. -/
import Derived.WalkKit
namespace Go.Proofs.YtbflhpffojlpgaaDoor
open Go.RowKit

def bitOf (a n : Int) : Bool := decide (0 ≤ n) && decide (n < 8) && (a / 2 ^ n.toNat % 2 == 1)
def putOf (a n : Int) (on : Bool) : Int :=
  if 0 ≤ n ∧ n < 8 then a - (if bitOf a n then 2 ^ n.toNat else 0) + (if on then 2 ^ n.toNat else 0) else a
def turnTo (a s : Int) : Nat → Int
  | 0 => 0
  | k + 1 => putOf (turnTo a s k) (((k : Int) + s) % 8) (bitOf a k)
def turnOf (a n : Int) : Int := turnTo a (n % 8) 8
def mirrorTo (a : Int) : Nat → Int
  | 0 => 0
  | k + 1 => putOf (mirrorTo a k) (7 - (k : Int)) (bitOf a k)
def mirrorOf (a : Int) : Int := mirrorTo a 8
def onesTo (a : Int) : Nat → Int
  | 0 => 0
  | k + 1 => onesTo a k + (if bitOf a k then 1 else 0)
def onesOf (a : Int) : Int := onesTo a 8
def signedOf (a : Int) : Int := if a < 128 then a else a - 256

theorem and_fin : ∀ a : Fin 256, ∀ n : Fin 8, (bits .and .u8 (a.val : Int) ((2 : Int) ^ (n.val : Int).toNat % 256) != 0) = bitOf (a.val : Int) (n.val : Int) := by decide +kernel
theorem or_fin : ∀ a : Fin 256, ∀ n : Fin 8, bits .or .u8 (a.val : Int) ((2 : Int) ^ (n.val : Int).toNat % 256) = putOf (a.val : Int) (n.val : Int) true := by decide +kernel
theorem andNot_fin : ∀ a : Fin 256, ∀ n : Fin 8, bits .andNot .u8 (a.val : Int) ((2 : Int) ^ (n.val : Int).toNat % 256) = putOf (a.val : Int) (n.val : Int) false := by decide +kernel
theorem put_fin : ∀ a : Fin 256, ∀ n : Fin 8, ∀ on : Bool, 0 ≤ putOf (a.val : Int) (n.val : Int) on ∧ putOf (a.val : Int) (n.val : Int) on ≤ 255 := by decide +kernel
theorem quo_fin : ∀ a : Fin 256, ∀ n : Fin 8, (((a.val : Int) / (2 : Int) ^ (n.val : Int).toNat % 2 == 1) : Bool) = bitOf (a.val : Int) (n.val : Int) := by decide +kernel

theorem fin8 {p : Int → Prop} (h : ∀ k : Fin 256, p (k.val : Int)) (a : Int) (h0 : 0 ≤ a) (h1 : a ≤ 255) : p a := by
  have e := h ⟨a.toNat, by omega⟩
  have e2 : ((a.toNat : Nat) : Int) = a := by omega
  simp only [e2] at e
  exact e
theorem fin8n {p : Int → Int → Prop} (h : ∀ k : Fin 256, ∀ n : Fin 8, p (k.val : Int) (n.val : Int)) (a n : Int) (h0 : 0 ≤ a) (h1 : a ≤ 255) (h2 : 0 ≤ n) (h3 : n < 8) : p a n := by
  have e := h ⟨a.toNat, by omega⟩ ⟨n.toNat, by omega⟩
  have e2 : ((a.toNat : Nat) : Int) = a := by omega
  have e3 : ((n.toNat : Nat) : Int) = n := by omega
  simp only [e2, e3] at e
  exact e
theorem and_bit (a n : Int) (h0 : 0 ≤ a) (h1 : a ≤ 255) (h2 : 0 ≤ n) (h3 : n < 8) : (bits .and .u8 a ((2 : Int) ^ n.toNat % 256) != 0) = bitOf a n :=
  fin8n (p := fun a n => (bits .and .u8 a ((2 : Int) ^ n.toNat % 256) != 0) = bitOf a n) and_fin a n h0 h1 h2 h3
theorem or_put (a n : Int) (h0 : 0 ≤ a) (h1 : a ≤ 255) (h2 : 0 ≤ n) (h3 : n < 8) : bits .or .u8 a ((2 : Int) ^ n.toNat % 256) = putOf a n true :=
  fin8n (p := fun a n => bits .or .u8 a ((2 : Int) ^ n.toNat % 256) = putOf a n true) or_fin a n h0 h1 h2 h3
theorem andNot_put (a n : Int) (h0 : 0 ≤ a) (h1 : a ≤ 255) (h2 : 0 ≤ n) (h3 : n < 8) : bits .andNot .u8 a ((2 : Int) ^ n.toNat % 256) = putOf a n false :=
  fin8n (p := fun a n => bits .andNot .u8 a ((2 : Int) ^ n.toNat % 256) = putOf a n false) andNot_fin a n h0 h1 h2 h3
theorem put_bd (a n : Int) (on : Bool) (h0 : 0 ≤ a) (h1 : a ≤ 255) : 0 ≤ putOf a n on ∧ putOf a n on ≤ 255 := by
  by_cases h : 0 ≤ n ∧ n < 8
  · exact fin8n (p := fun a n => ∀ on : Bool, 0 ≤ putOf a n on ∧ putOf a n on ≤ 255) put_fin a n h0 h1 h.1 h.2 on
  · unfold putOf; rw [if_neg h]; exact ⟨h0, h1⟩
theorem bit_out (a n : Int) (h : ¬ (0 ≤ n ∧ n < 8)) : bitOf a n = false := by
  unfold bitOf
  by_cases h1 : 0 ≤ n
  · have h2 : ¬ n < 8 := by omega
    simp [h2]
  · simp [h1]
theorem put_out (a n : Int) (on : Bool) (h : ¬ (0 ≤ n ∧ n < 8)) : putOf a n on = a := by unfold putOf; rw [if_neg h]
theorem turnTo_bd (a s : Int) (k : Nat) : 0 ≤ turnTo a s k ∧ turnTo a s k ≤ 255 := by
  induction k with
  | zero => exact ⟨Int.le_refl 0, (by decide : (0 : Int) ≤ 255)⟩
  | succ k ih => exact put_bd _ _ _ ih.1 ih.2
theorem mirrorTo_bd (a : Int) (k : Nat) : 0 ≤ mirrorTo a k ∧ mirrorTo a k ≤ 255 := by
  induction k with
  | zero => exact ⟨Int.le_refl 0, (by decide : (0 : Int) ≤ 255)⟩
  | succ k ih => exact put_bd _ _ _ ih.1 ih.2
theorem onesTo_bd (a : Int) (k : Nat) : 0 ≤ onesTo a k ∧ onesTo a k ≤ k := by
  induction k with
  | zero => exact ⟨Int.le_refl _, Int.le_refl _⟩
  | succ k ih => unfold onesTo; split <;> omega
theorem mask7 (n : Int) : bits .and .i64 n 7 = n % 8 := by
  have h7 : (BitVec.ofInt 64 7).toNat = 2 ^ 3 - 1 := by decide
  have key : (BitVec.ofInt 64 n &&& BitVec.ofInt 64 7).toNat = (n % ((2 ^ 64 : Nat) : Int)).toNat % 2 ^ 3 := by
    rw [BitVec.toNat_and, BitVec.toNat_ofInt, h7, Nat.and_two_pow_sub_one_eq_mod]
  show IntKind.i64.wrap ((BitVec.ofInt 64 n &&& BitVec.ofInt 64 7).toNat : Nat) = n % 8
  rw [key, IntKind.wrap_i64]
  omega
theorem ret_bool {a b : Bool} (h : a = b) : Ending.returned (.bool a) = .returned (.bool b) := by rw [h]
theorem ret_int {k : IntKind} {a b : Int} (h : a = b) : Ending.returned (.int k a) = .returned (.int k b) := by rw [h]
end Go.Proofs.YtbflhpffojlpgaaDoor
