/- Plain numbers of layer 13: a port as a record, its lines, what it asks for, and what follows. -/
import Derived.Test.YtgmncbjanpmmkaaBits
namespace Go.Proofs.Ytgmncbjanpmmkaa
open Go.RowKit
set_option linter.unusedVariables false
set_option linter.unusedSimpArgs false

structure Pd where
  sel : Int
  last : Int
structure PdIn (p : Pd) : Prop where
  s0 : 0 ≤ p.sel
  s1 : p.sel ≤ 255
  l0 : 0 ≤ p.last
  l1 : p.last ≤ 255
def lowB (b4 b5 : Bool) (keys : Int) (k : Int) : Bool := (!b4 && bitOf keys k) || (!b5 && bitOf keys (4 + k))
def lineTo (b4 b5 : Bool) (keys : Int) : Nat → Int
  | 0 => 0
  | k + 1 => putOf (lineTo b4 b5 keys k) k (!lowB b4 b5 keys k)
def linesB (b4 b5 : Bool) (keys : Int) : Int := lineTo b4 b5 keys 4
def linesP (sel keys : Int) : Int := linesB (bitOf sel 4) (bitOf sel 5) keys
def fellTo (last now : Int) : Nat → Bool
  | 0 => false
  | k + 1 => fellTo last now k || (bitOf last k && !bitOf now k)
def fellP (last now : Int) : Bool := fellTo last now 4
def readP (p : Pd) (keys : Int) : Int := 192 + p.sel / 16 % 4 * 16 + linesP p.sel keys
def writeP (p : Pd) (v : Int) : Pd := ⟨v / 16 % 4 * 16, p.last⟩
def stepP (p : Pd) (keys : Int) : Pd := ⟨p.sel, linesP p.sel keys⟩
def askP (p : Pd) (keys : Int) : Bool := fellP p.last (linesP p.sel keys)
theorem fin8b {p : Bool → Bool → Int → Prop} (h : ∀ b c : Bool, ∀ k : Fin 256, p b c (k.val : Int)) (b c : Bool) (a : Int) (h0 : 0 ≤ a) (h1 : a ≤ 255) : p b c a :=
  fin8 (p := fun a => p b c a) (h b c) a h0 h1
theorem fin84 {p : Int → Int → Prop} (h : ∀ k : Fin 256, ∀ n : Fin 16, p (k.val : Int) (n.val : Int)) (a n : Int) (h0 : 0 ≤ a) (h1 : a ≤ 255) (h2 : 0 ≤ n) (h3 : n ≤ 15) : p a n := by
  have e := h ⟨a.toNat, by omega⟩ ⟨n.toNat, by omega⟩
  have e2 : ((a.toNat : Nat) : Int) = a := by omega
  have e3 : ((n.toNat : Nat) : Int) = n := by omega
  simp only [e2, e3] at e
  exact e
theorem lines_fin : ∀ b c : Bool, ∀ k : Fin 256, 0 ≤ linesB b c (k.val : Int) ∧ linesB b c (k.val : Int) ≤ 15 := by decide +kernel
theorem lines_in (sel keys : Int) (k0 : 0 ≤ keys) (k1 : keys ≤ 255) : 0 ≤ linesP sel keys ∧ linesP sel keys ≤ 15 :=
  fin8b (p := fun b c k => 0 ≤ linesB b c k ∧ linesB b c k ≤ 15) lines_fin _ _ keys k0 k1
theorem line_bd (b4 b5 : Bool) (keys : Int) (k : Nat) : 0 ≤ lineTo b4 b5 keys k ∧ lineTo b4 b5 keys k ≤ 255 := by
  induction k with
  | zero => exact ⟨Int.le_refl 0, (by decide : (0 : Int) ≤ 255)⟩
  | succ k ih => exact put_bd _ _ _ ih.1 ih.2
/-- What a row tells of its keys. -/
def rowB (b : Bool) (keys d : Int) : Int := if b = true then 0 else keys / d % 16
theorem rows_fin : ∀ b c : Bool, ∀ k : Fin 256, bits .andNot .u8 15 (bits .or .u8 (rowB b (k.val : Int) 1) (rowB c (k.val : Int) 16)) = linesB b c (k.val : Int) := by decide +kernel
theorem rows_lines (b c : Bool) (keys : Int) (k0 : 0 ≤ keys) (k1 : keys ≤ 255) : bits .andNot .u8 15 (bits .or .u8 (rowB b keys 1) (rowB c keys 16)) = linesB b c keys :=
  fin8b (p := fun b c k => bits .andNot .u8 15 (bits .or .u8 (rowB b k 1) (rowB c k 16)) = linesB b c k) rows_fin b c keys k0 k1
theorem fell_fin : ∀ k : Fin 256, ∀ n : Fin 16, (bits .andNot .u8 (bits .and .u8 (k.val : Int) 15) (n.val : Int) != 0) = fellP (k.val : Int) (n.val : Int) := by decide +kernel
theorem fell_eq (last now : Int) (h0 : 0 ≤ last) (h1 : last ≤ 255) (h2 : 0 ≤ now) (h3 : now ≤ 15) : (bits .andNot .u8 (bits .and .u8 last 15) now != 0) = fellP last now :=
  fin84 (p := fun a n => (bits .andNot .u8 (bits .and .u8 a 15) n != 0) = fellP a n) fell_fin last now h0 h1 h2 h3
theorem read_fin : ∀ k : Fin 256, ∀ n : Fin 16, bits .or .u8 (bits .or .u8 192 (bits .and .u8 (k.val : Int) 48)) (n.val : Int) = 192 + (k.val : Int) / 16 % 4 * 16 + (n.val : Int) := by decide +kernel
theorem read_or (s n : Int) (h0 : 0 ≤ s) (h1 : s ≤ 255) (h2 : 0 ≤ n) (h3 : n ≤ 15) : bits .or .u8 (bits .or .u8 192 (bits .and .u8 s 48)) n = 192 + s / 16 % 4 * 16 + n :=
  fin84 (p := fun s n => bits .or .u8 (bits .or .u8 192 (bits .and .u8 s 48)) n = 192 + s / 16 % 4 * 16 + n) read_fin s n h0 h1 h2 h3
theorem and48_fin : ∀ k : Fin 256, bits .and .u8 (k.val : Int) 48 = (k.val : Int) / 16 % 4 * 16 := by decide +kernel
theorem and48 (v : Int) (h0 : 0 ≤ v) (h1 : v ≤ 255) : bits .and .u8 v 48 = v / 16 % 4 * 16 := fin8 (p := fun v => bits .and .u8 v 48 = v / 16 % 4 * 16) and48_fin v h0 h1
theorem and16_fin : ∀ k : Fin 256, (bits .and .u8 (k.val : Int) 16 != 0) = bitOf (k.val : Int) 4 := by decide +kernel
theorem and16_ne (v : Int) (h0 : 0 ≤ v) (h1 : v ≤ 255) : (bits .and .u8 v 16 != 0) = bitOf v 4 := fin8 (p := fun v => (bits .and .u8 v 16 != 0) = bitOf v 4) and16_fin v h0 h1
theorem and32_fin : ∀ k : Fin 256, (bits .and .u8 (k.val : Int) 32 != 0) = bitOf (k.val : Int) 5 := by decide +kernel
theorem and32_ne (v : Int) (h0 : 0 ≤ v) (h1 : v ≤ 255) : (bits .and .u8 v 32 != 0) = bitOf v 5 := fin8 (p := fun v => (bits .and .u8 v 32 != 0) = bitOf v 5) and32_fin v h0 h1
theorem and15a_fin : ∀ k : Fin 256, bits .and .u8 (k.val : Int) 15 = (k.val : Int) % 16 := by decide +kernel
theorem and15a (v : Int) (h0 : 0 ≤ v) (h1 : v ≤ 255) : bits .and .u8 v 15 = v % 16 := fin8 (p := fun v => bits .and .u8 v 15 = v % 16) and15a_fin v h0 h1
/-- What PadRows wants. -/
theorem none_fin : ∀ k : Fin 256, linesB true true (k.val : Int) = 15 := by decide +kernel
theorem none_all (keys : Int) (h0 : 0 ≤ keys) (h1 : keys ≤ 255) : linesP 48 keys = 15 := fin8 (p := fun v => linesB true true v = 15) none_fin keys h0 h1
theorem one_fin : ∀ k : Fin 256, linesB false true (k.val : Int) = 15 - (k.val : Int) % 16 := by decide +kernel
theorem one_all (keys : Int) (h0 : 0 ≤ keys) (h1 : keys ≤ 255) : linesP 32 keys = 15 - keys % 16 := fin8 (p := fun v => linesB false true v = 15 - v % 16) one_fin keys h0 h1
theorem two_fin : ∀ k : Fin 256, linesB true false (k.val : Int) = 15 - (k.val : Int) / 16 := by decide +kernel
theorem two_all (keys : Int) (h0 : 0 ≤ keys) (h1 : keys ≤ 255) : linesP 16 keys = 15 - keys / 16 := fin8 (p := fun v => linesB true false v = 15 - v / 16) two_fin keys h0 h1
theorem both_fin : ∀ k : Fin 256, linesB false false (k.val : Int) = bits .and .u8 (15 - (k.val : Int) % 16) (15 - (k.val : Int) / 16) := by decide +kernel
theorem both_all (keys : Int) (h0 : 0 ≤ keys) (h1 : keys ≤ 255) : linesP 0 keys = bits .and .u8 (15 - keys % 16) (15 - keys / 16) := fin8 (p := fun v => linesB false false v = bits .and .u8 (15 - v % 16) (15 - v / 16)) both_fin keys h0 h1
/-- What PadHeld wants. -/
theorem free_fin : ∀ b c : Bool, linesB b c 0 = 15 := by decide +kernel
theorem free_all (sel : Int) : linesP sel 0 = 15 := free_fin _ _
theorem stay_to (now : Int) (k : Nat) : fellTo now now k = false := by
  induction k with
  | zero => rfl
  | succ k ih => show (fellTo now now k || (bitOf now k && !bitOf now k)) = false; rw [ih]; cases bitOf now k <;> rfl
theorem stay (now : Int) : fellP now now = false := stay_to now 4
theorem up_fin : ∀ k : Fin 256, fellP (k.val : Int) 15 = false := by decide +kernel
theorem up_no (last : Int) (h0 : 0 ≤ last) (h1 : last ≤ 255) : fellP last 15 = false := fin8 (p := fun v => fellP v 15 = false) up_fin last h0 h1
theorem again_fin : ∀ n : Fin 16, fellP 15 (n.val : Int) = ((n.val : Int) != 15) := by decide +kernel
theorem again_eq (now : Int) (h0 : 0 ≤ now) (h1 : now ≤ 15) : fellP 15 now = (now != 15) := by
  have e := again_fin ⟨now.toNat, by omega⟩
  have e2 : ((now.toNat : Nat) : Int) = now := by omega
  simp only [e2] at e
  exact e
theorem first_low (last now : Int) (h0 : 0 ≤ last) (h1 : last ≤ 255) : (!fellP last now || (now != 15)) = true := by
  by_cases h : now = 15
  · subst h
    rw [up_no last h0 h1]
    rfl
  · have : (now != 15) = true := by simpa using h
    rw [this, Bool.or_true]
theorem step_inP {p : Pd} (h : PdIn p) (keys : Int) (k0 : 0 ≤ keys) (k1 : keys ≤ 255) : PdIn (stepP p keys) :=
  ⟨h.s0, h.s1, (lines_in p.sel keys k0 k1).1, by have := (lines_in p.sel keys k0 k1).2; show linesP p.sel keys ≤ 255; omega⟩
theorem write_inP {p : Pd} (h : PdIn p) (v : Int) (v0 : 0 ≤ v) (v1 : v ≤ 255) : PdIn (writeP p v) :=
  ⟨by show 0 ≤ v / 16 % 4 * 16; omega, by show v / 16 % 4 * 16 ≤ 255; omega, h.l0, h.l1⟩
end Go.Proofs.Ytgmncbjanpmmkaa
