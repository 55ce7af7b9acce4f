/- Plain numbers of layer 1: what a bit, a byte with a bit put, a turned and a mirrored byte come to; no program in sight. Plain numbers of layer 17: pixels, rows, places, cells, shades, bytes; no program in sight. -/
import Derived.WalkKit
namespace Go.Proofs.Ytecgpdjgbdobbab
open Go.RowKit

def bitOf (a n : Int) : Bool := decide (0 ≤ n) && decide (n < 8) && (a / 2 ^ n.toNat % 2 == 1)
def putOf (a n : Int) (on : Bool) : Int :=
  if 0 ≤ n ∧ n < 8 then a - (if bitOf a n then 2 ^ n.toNat else 0) + (if on then 2 ^ n.toNat else 0) else a
def turnTo (a s : Int) : Nat → Int
  | 0 => 0
  | k + 1 => putOf (turnTo a s k) (((k : Int) + s) % 8) (bitOf a k)
def turnOf (a n : Int) : Int := turnTo a (n % 8) 8
def mirrorTo (a : Int) : Nat → Int
  | 0 => 0
  | k + 1 => putOf (mirrorTo a k) (7 - (k : Int)) (bitOf a k)
def mirrorOf (a : Int) : Int := mirrorTo a 8
def onesTo (a : Int) : Nat → Int
  | 0 => 0
  | k + 1 => onesTo a k + (if bitOf a k then 1 else 0)
def onesOf (a : Int) : Int := onesTo a 8
def signedOf (a : Int) : Int := if a < 128 then a else a - 256

theorem and_fin : ∀ a : Fin 256, ∀ n : Fin 8, (bits .and .u8 (a.val : Int) ((2 : Int) ^ (n.val : Int).toNat % 256) != 0) = bitOf (a.val : Int) (n.val : Int) := by decide +kernel
theorem or_fin : ∀ a : Fin 256, ∀ n : Fin 8, bits .or .u8 (a.val : Int) ((2 : Int) ^ (n.val : Int).toNat % 256) = putOf (a.val : Int) (n.val : Int) true := by decide +kernel
theorem andNot_fin : ∀ a : Fin 256, ∀ n : Fin 8, bits .andNot .u8 (a.val : Int) ((2 : Int) ^ (n.val : Int).toNat % 256) = putOf (a.val : Int) (n.val : Int) false := by decide +kernel
theorem put_fin : ∀ a : Fin 256, ∀ n : Fin 8, ∀ on : Bool, 0 ≤ putOf (a.val : Int) (n.val : Int) on ∧ putOf (a.val : Int) (n.val : Int) on ≤ 255 := by decide +kernel
theorem quo_fin : ∀ a : Fin 256, ∀ n : Fin 8, (((a.val : Int) / (2 : Int) ^ (n.val : Int).toNat % 2 == 1) : Bool) = bitOf (a.val : Int) (n.val : Int) := by decide +kernel

theorem fin8 {p : Int → Prop} (h : ∀ k : Fin 256, p (k.val : Int)) (a : Int) (h0 : 0 ≤ a) (h1 : a ≤ 255) : p a := by
  have e := h ⟨a.toNat, by omega⟩
  have e2 : ((a.toNat : Nat) : Int) = a := by omega
  simp only [e2] at e
  exact e
theorem fin8n {p : Int → Int → Prop} (h : ∀ k : Fin 256, ∀ n : Fin 8, p (k.val : Int) (n.val : Int)) (a n : Int) (h0 : 0 ≤ a) (h1 : a ≤ 255) (h2 : 0 ≤ n) (h3 : n < 8) : p a n := by
  have e := h ⟨a.toNat, by omega⟩ ⟨n.toNat, by omega⟩
  have e2 : ((a.toNat : Nat) : Int) = a := by omega
  have e3 : ((n.toNat : Nat) : Int) = n := by omega
  simp only [e2, e3] at e
  exact e
theorem and_bit (a n : Int) (h0 : 0 ≤ a) (h1 : a ≤ 255) (h2 : 0 ≤ n) (h3 : n < 8) : (bits .and .u8 a ((2 : Int) ^ n.toNat % 256) != 0) = bitOf a n :=
  fin8n (p := fun a n => (bits .and .u8 a ((2 : Int) ^ n.toNat % 256) != 0) = bitOf a n) and_fin a n h0 h1 h2 h3
theorem or_put (a n : Int) (h0 : 0 ≤ a) (h1 : a ≤ 255) (h2 : 0 ≤ n) (h3 : n < 8) : bits .or .u8 a ((2 : Int) ^ n.toNat % 256) = putOf a n true :=
  fin8n (p := fun a n => bits .or .u8 a ((2 : Int) ^ n.toNat % 256) = putOf a n true) or_fin a n h0 h1 h2 h3
theorem andNot_put (a n : Int) (h0 : 0 ≤ a) (h1 : a ≤ 255) (h2 : 0 ≤ n) (h3 : n < 8) : bits .andNot .u8 a ((2 : Int) ^ n.toNat % 256) = putOf a n false :=
  fin8n (p := fun a n => bits .andNot .u8 a ((2 : Int) ^ n.toNat % 256) = putOf a n false) andNot_fin a n h0 h1 h2 h3
theorem put_bd (a n : Int) (on : Bool) (h0 : 0 ≤ a) (h1 : a ≤ 255) : 0 ≤ putOf a n on ∧ putOf a n on ≤ 255 := by
  by_cases h : 0 ≤ n ∧ n < 8
  · exact fin8n (p := fun a n => ∀ on : Bool, 0 ≤ putOf a n on ∧ putOf a n on ≤ 255) put_fin a n h0 h1 h.1 h.2 on
  · unfold putOf; rw [if_neg h]; exact ⟨h0, h1⟩
theorem bit_out (a n : Int) (h : ¬ (0 ≤ n ∧ n < 8)) : bitOf a n = false := by
  unfold bitOf
  by_cases h1 : 0 ≤ n
  · have h2 : ¬ n < 8 := by omega
    simp [h2]
  · simp [h1]
theorem put_out (a n : Int) (on : Bool) (h : ¬ (0 ≤ n ∧ n < 8)) : putOf a n on = a := by unfold putOf; rw [if_neg h]
theorem turnTo_bd (a s : Int) (k : Nat) : 0 ≤ turnTo a s k ∧ turnTo a s k ≤ 255 := by
  induction k with
  | zero => exact ⟨Int.le_refl 0, (by decide : (0 : Int) ≤ 255)⟩
  | succ k ih => exact put_bd _ _ _ ih.1 ih.2
theorem mirrorTo_bd (a : Int) (k : Nat) : 0 ≤ mirrorTo a k ∧ mirrorTo a k ≤ 255 := by
  induction k with
  | zero => exact ⟨Int.le_refl 0, (by decide : (0 : Int) ≤ 255)⟩
  | succ k ih => exact put_bd _ _ _ ih.1 ih.2
theorem onesTo_bd (a : Int) (k : Nat) : 0 ≤ onesTo a k ∧ onesTo a k ≤ k := by
  induction k with
  | zero => exact ⟨Int.le_refl _, Int.le_refl _⟩
  | succ k ih => unfold onesTo; split <;> omega
theorem mask7 (n : Int) : bits .and .i64 n 7 = n % 8 := by
  have h7 : (BitVec.ofInt 64 7).toNat = 2 ^ 3 - 1 := by decide
  have key : (BitVec.ofInt 64 n &&& BitVec.ofInt 64 7).toNat = (n % ((2 ^ 64 : Nat) : Int)).toNat % 2 ^ 3 := by
    rw [BitVec.toNat_and, BitVec.toNat_ofInt, h7, Nat.and_two_pow_sub_one_eq_mod]
  show IntKind.i64.wrap ((BitVec.ofInt 64 n &&& BitVec.ofInt 64 7).toNat : Nat) = n % 8
  rw [key, IntKind.wrap_i64]
  omega
theorem ret_bool {a b : Bool} (h : a = b) : Ending.returned (.bool a) = .returned (.bool b) := by rw [h]
theorem ret_int {k : IntKind} {a b : Int} (h : a = b) : Ending.returned (.int k a) = .returned (.int k b) := by rw [h]
end Go.Proofs.Ytecgpdjgbdobbab
namespace Go.Proofs.Ytecgpdjgbdobbab
open Go.RowKit
set_option linter.unusedVariables false
set_option linter.unusedSimpArgs false

def bN (a n : Int) : Int := if bitOf a n then 1 else 0
def pixP (lo hi n : Int) : Int := if 0 ≤ n ∧ n < 8 then 2 * bN hi (7 - n) + bN lo (7 - n) else 0
def rowN (lo hi : Int) (i : Nat) : Value := .int .u8 (pixP lo hi (i : Int))
def rowTo (lo hi : Int) (j : Nat) : List Value := (List.range 8).map fun i => if i < j then rowN lo hi i else .int .u8 0
def rowL (lo hi : Int) : List Value := [rowN lo hi 0, rowN lo hi 1, rowN lo hi 2, rowN lo hi 3, rowN lo hi 4, rowN lo hi 5, rowN lo hi 6, rowN lo hi 7]
def placeP (t : Int) (s : Bool) (row : Int) : Int := (if s then 4096 + 16 * signedOf t else 16 * t) + 2 * (row % 8)
def cellP (h : Bool) (x y : Int) : Int := (if h then 7168 else 6144) + 32 * (y / 8) + x / 8
def shadeP (p c : Int) : Int := p / 4 ^ (c % 4).toNat % 4
def atP (z : List Int) (i : Int) : Int := if 0 ≤ i ∧ i < (z.length : Int) then z.getD i.toNat 0 else 255

theorem bN_bd (a n : Int) : 0 ≤ bN a n ∧ bN a n ≤ 1 := by unfold bN; split <;> decide
theorem pix_in (lo hi n : Int) (h0 : 0 ≤ n) (h1 : n < 8) : pixP lo hi n = 2 * bN hi (7 - n) + bN lo (7 - n) := if_pos ⟨h0, h1⟩
theorem pix_out (lo hi n : Int) (h : ¬ (0 ≤ n ∧ n < 8)) : pixP lo hi n = 0 := if_neg h
theorem pix_bd (lo hi n : Int) : 0 ≤ pixP lo hi n ∧ pixP lo hi n ≤ 3 := by
  unfold pixP
  split
  · have := bN_bd hi (7 - n); have := bN_bd lo (7 - n); omega
  · decide
theorem and1_fin : ∀ a : Fin 256, bits .and .u8 (a.val : Int) 1 = (a.val : Int) % 2 := by decide +kernel
theorem and1_17 (a : Int) (h0 : 0 ≤ a) (h1 : a ≤ 255) : bits .and .u8 a 1 = a % 2 := fin8 (p := fun a => bits .and .u8 a 1 = a % 2) and1_fin a h0 h1
theorem and3_fin : ∀ a : Fin 256, bits .and .u8 (a.val : Int) 3 = (a.val : Int) % 4 := by decide +kernel
theorem and3_17 (a : Int) (h0 : 0 ≤ a) (h1 : a ≤ 255) : bits .and .u8 a 3 = a % 4 := fin8 (p := fun a => bits .and .u8 a 3 = a % 4) and3_fin a h0 h1
theorem or21_fin : ∀ a b : Fin 2, bits .or .u8 ((a.val : Int) * 2) (b.val : Int) = 2 * (a.val : Int) + (b.val : Int) := by decide +kernel
theorem or21 (a b : Int) (h0 : 0 ≤ a) (h1 : a ≤ 1) (h2 : 0 ≤ b) (h3 : b ≤ 1) : bits .or .u8 (a * 2) b = 2 * a + b := by
  have e := or21_fin ⟨a.toNat, by omega⟩ ⟨b.toNat, by omega⟩
  have e2 : ((a.toNat : Nat) : Int) = a := by omega
  have e3 : ((b.toNat : Nat) : Int) = b := by omega
  simp only [e2, e3] at e
  exact e
theorem bN_eq (a : Int) (k : Nat) (hk : k < 8) : bN a k = a / 2 ^ k % 2 := by
  unfold bN bitOf
  have e : (k : Int).toNat = k := by omega
  rw [e, decide_eq_true (by omega : (0 : Int) ≤ k), decide_eq_true (by omega : (k : Int) < 8)]
  rcases Int.emod_two_eq (a / 2 ^ k) with h | h <;> rw [h] <;> rfl
theorem pix_eq (lo hi : Int) (k : Nat) (hk : k < 8) : pixP lo hi ((7 - k : Nat) : Int) = 2 * (hi / 2 ^ k % 2) + lo / 2 ^ k % 2 := by
  have e : (7 : Int) - ((7 - k : Nat) : Int) = k := by omega
  rw [pix_in lo hi _ (by omega) (by omega), e, bN_eq hi k hk, bN_eq lo k hk]
theorem rowTo_8 (lo hi : Int) : rowTo lo hi 8 = rowL lo hi := rfl
theorem rowTo_len (lo hi : Int) (j : Nat) : (rowTo lo hi j).length = 8 := by simp [rowTo]
theorem rowTo_next (lo hi : Int) (j : Nat) (h : j < 8) : (rowTo lo hi j).take j ++ [Value.int .u8 (pixP lo hi (j : Int))] ++ (rowTo lo hi j).drop (j + 1) = rowTo lo hi (j + 1) := by
  have e : j = 0 ∨ j = 1 ∨ j = 2 ∨ j = 3 ∨ j = 4 ∨ j = 5 ∨ j = 6 ∨ j = 7 := by omega
  rcases e with rfl | rfl | rfl | rfl | rfl | rfl | rfl | rfl <;> rfl
theorem quart_next (q : Int) (j : Nat) : q / 4 ^ j / 4 = q / 4 ^ (j + 1) := by
  rw [Int.pow_succ, Int.ediv_ediv_of_nonneg (Int.pow_nonneg (by decide))]
theorem quart_bd (q : Int) (j : Nat) (h0 : 0 ≤ q) (h1 : q ≤ 255) : 0 ≤ q / 4 ^ j ∧ q / 4 ^ j ≤ 255 := by
  have p : (0 : Int) < 4 ^ j := Int.pow_pos (by decide)
  refine ⟨Int.ediv_nonneg h0 (Int.le_of_lt p), ?_⟩
  have : q / 4 ^ j ≤ q := Int.ediv_le_self _ h0
  omega
theorem shade_bd (p c : Int) : 0 ≤ shadeP p c ∧ shadeP p c ≤ 3 := by unfold shadeP; omega
theorem at_in (z : List Int) (i : Nat) (h : i < z.length) : atP z i = z.getD i 0 := by unfold atP; rw [if_pos ⟨by omega, by omega⟩]; rfl
theorem at_out (z : List Int) (i : Int) (h : ¬ (0 ≤ i ∧ i < (z.length : Int))) : atP z i = 255 := if_neg h
end Go.Proofs.Ytecgpdjgbdobbab
