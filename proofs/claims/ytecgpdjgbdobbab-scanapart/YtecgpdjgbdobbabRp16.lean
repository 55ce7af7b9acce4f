/- Plain numbers of layer 16: rows, columns, extra dots. -/
import Derived.Test.YtecgpdjgbdobbabOb16
namespace Go.Proofs.Ytecgpdjgbdobbab
open Go.RowKit
set_option linter.unusedVariables false
set_option linter.unusedSimpArgs false

def rowsI (t : Bool) : Int := if t then 16 else 8
theorem rows_t : rowsI true = 16 := rfl
theorem rows_f : rowsI false = 8 := rfl
/-- An object stands on a line. -/
def onP (o : Ob) (l : Int) (t : Bool) : Bool := decide (0 ≤ l ∧ l ≤ 143 ∧ (o.1.val : Int) ≤ l + 16 ∧ l + 16 < o.1.val + rowsI t)
theorem onP_iff (o : Ob) (l : Int) (t : Bool) : onP o l t = true ↔ 0 ≤ l ∧ l ≤ 143 ∧ (o.1.val : Int) ≤ l + 16 ∧ l + 16 < o.1.val + rowsI t := by unfold onP; simp
theorem onP_no (o : Ob) (l : Int) (t : Bool) : onP o l t = false ↔ ¬ (0 ≤ l ∧ l ≤ 143 ∧ (o.1.val : Int) ≤ l + 16 ∧ l + 16 < o.1.val + rowsI t) := by unfold onP; simp
def rI (o : Ob) (l : Int) (t : Bool) : Int := if bitOf o.2.2.2.1.val 6 then rowsI t - 1 - (l + 16 - o.1.val) else l + 16 - o.1.val
def tileR (o : Ob) (l : Int) (t : Bool) : Int := if onP o l t then (if t then putOf o.2.2.1.val 0 false + rI o l t / 8 else o.2.2.1.val) else 0
def rowR (o : Ob) (l : Int) (t : Bool) : Int := if onP o l t then (if t then rI o l t % 8 else rI o l t) else 0
def colOn (o : Ob) (x : Int) : Bool := decide (0 ≤ x ∧ x ≤ 159 ∧ 0 ≤ x + 8 - o.2.1.val ∧ x + 8 - o.2.1.val ≤ 7)
def colI (o : Ob) (x : Int) : Int := if colOn o x then (if bitOf o.2.2.2.1.val 5 then 7 - (x + 8 - o.2.1.val) else x + 8 - o.2.1.val) else 0
theorem colOn_iff (o : Ob) (x : Int) : colOn o x = true ↔ 0 ≤ x ∧ x ≤ 159 ∧ 0 ≤ x + 8 - o.2.1.val ∧ x + 8 - o.2.1.val ≤ 7 := by unfold colOn; simp
theorem and64_fin : ∀ v : Fin 256, (bits .and .u8 (v.val : Int) 64 == 0) = !(bitOf (v.val : Int) 6) := by decide +kernel
theorem and32_fin : ∀ v : Fin 256, (bits .and .u8 (v.val : Int) 32 == 0) = !(bitOf (v.val : Int) 5) := by decide +kernel
theorem put0_fin : ∀ v : Fin 256, bits .andNot .u8 (v.val : Int) 1 = putOf (v.val : Int) 0 false ∧ 0 ≤ putOf (v.val : Int) 0 false ∧ putOf (v.val : Int) 0 false ≤ 254 := by decide +kernel
theorem xor64_fin : ∀ v : Fin 256, bitOf (bits .xor .u8 (v.val : Int) 64) 6 = !(bitOf (v.val : Int) 6) ∧ 0 ≤ bits .xor .u8 (v.val : Int) 64 ∧ bits .xor .u8 (v.val : Int) 64 ≤ 255 := by decide +kernel
theorem rI_in {o : Ob} {l : Int} {t : Bool} (h : onP o l t = true) : 0 ≤ rI o l t ∧ rI o l t < rowsI t := by
  rw [onP_iff] at h
  unfold rI
  split <;> omega
/-- An object's less, and what it adds. -/
def addI (o : Ob) (s : Int) : Int := if (o.2.1.val : Int) < 168 then 11 - min 5 ((o.2.1.val + s) % 8) else 0
def sumI (l : List Ob) (s : Int) : Nat → Int
  | 0 => s % 8
  | j + 1 => sumI l s j + addI (l.getD j default) s
theorem sum_yes {l : List Ob} {s : Int} {j : Nat} {o : Ob} (ho : l.getD j default = o) (h : (o.2.1.val : Int) < 168) : sumI l s (j + 1) = sumI l s j + (11 - min 5 ((o.2.1.val + s) % 8)) := by
  show sumI l s j + addI (l.getD j default) s = _
  rw [ho]; unfold addI; rw [if_pos h]
theorem sum_no {l : List Ob} {s : Int} {j : Nat} {o : Ob} (ho : l.getD j default = o) (h : ¬ (o.2.1.val : Int) < 168) : sumI l s (j + 1) = sumI l s j := by
  show sumI l s j + addI (l.getD j default) s = _
  rw [ho]; unfold addI; rw [if_neg h, Int.add_zero]
theorem sum_bd (l : List Ob) (s : Int) (h0 : 0 ≤ s) : ∀ j, 0 ≤ sumI l s j ∧ sumI l s j ≤ 7 + 11 * (j : Int)
  | 0 => by show 0 ≤ s % 8 ∧ s % 8 ≤ _; omega
  | j + 1 => by
    have := sum_bd l s h0 j
    have a : 0 ≤ addI (l.getD j default) s ∧ addI (l.getD j default) s ≤ 11 := by
      unfold addI
      split <;> omega
    show 0 ≤ sumI l s j + addI (l.getD j default) s ∧ sumI l s j + addI (l.getD j default) s ≤ _
    omega
end Go.Proofs.Ytecgpdjgbdobbab
