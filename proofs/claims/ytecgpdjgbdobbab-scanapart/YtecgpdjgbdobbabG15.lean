/- Plain numbers of layer 16: objects as records. Plain numbers of layer 16: rows, columns, extra dots. Plain: the objects of a memory, and those of a line. -/
import Derived.Test.YtecgpdjgbdobbabG10
import Derived.Test.YtecgpdjgbdobbabG06
import Derived.Test.YtecgpdjgbdobbabG00
import Derived.Test.YtecgpdjgbdobbabG09
namespace Go.Proofs.Ytecgpdjgbdobbab
open Go.RowKit
set_option linter.unusedVariables false
set_option linter.unusedSimpArgs false

/-- An object: Y, X, Tile, Attr, At. -/
abbrev Ob : Type := Fin 256 × Fin 256 × Fin 256 × Fin 256 × Fin 256
abbrev b8 (v : Fin 256) : Value := .int .u8 (v.val : Int)
def obC (o : Ob) : List Value := [b8 o.1, b8 o.2.1, b8 o.2.2.1, b8 o.2.2.2.1, b8 o.2.2.2.2]
def obV (o : Ob) : Value := .agg #[b8 o.1, b8 o.2.1, b8 o.2.2.1, b8 o.2.2.2.1, b8 o.2.2.2.2]
theorem obV_eq (o : Ob) : obV o = .agg (obC o).toArray := rfl
theorem obC_len (o : Ob) : (obC o).length = 5 := rfl
theorem obC_one (o : Ob) : ∀ v ∈ obC o, v.oneCell' = true := by
  intro v hv
  simp [obC] at hv
  rcases hv with rfl | rfl | rfl | rfl | rfl <;> rfl
def key16 (o : Ob) : Nat := o.2.1.val * 256 + o.2.2.2.2.val
def cmpI (x y : Int) : Int := if x < y then -1 else if y < x then 1 else 0
/-- The order's answer. -/
def cf16 (a b : Ob) : Int := if a.2.1.val = b.2.1.val then cmpI a.2.2.2.2.val b.2.2.2.2.val else cmpI a.2.1.val b.2.1.val
theorem cf_neg (a b : Ob) : cf16 a b < 0 ↔ key16 a < key16 b := by
  obtain ⟨a0, ⟨a1, h1⟩, a2, a3, ⟨a4, h4⟩⟩ := a
  obtain ⟨b0, ⟨b1, k1⟩, b2, b3, ⟨b4, k4⟩⟩ := b
  simp only [cf16, key16, cmpI]
  repeat' split
  all_goals omega
/-- A byte as one of 256. -/
theorem fin_of {a : Int} (h0 : 0 ≤ a) (h1 : a ≤ 255) : ∃ v : Fin 256, a = (v.val : Int) := ⟨⟨a.toNat, by omega⟩, by simp; omega⟩
end Go.Proofs.Ytecgpdjgbdobbab
namespace Go.Proofs.Ytecgpdjgbdobbab
open Go.RowKit
set_option linter.unusedVariables false
set_option linter.unusedSimpArgs false

def rowsI (t : Bool) : Int := if t then 16 else 8
theorem rows_t : rowsI true = 16 := rfl
theorem rows_f : rowsI false = 8 := rfl
/-- An object stands on a line. -/
def onP (o : Ob) (l : Int) (t : Bool) : Bool := decide (0 ≤ l ∧ l ≤ 143 ∧ (o.1.val : Int) ≤ l + 16 ∧ l + 16 < o.1.val + rowsI t)
theorem onP_iff (o : Ob) (l : Int) (t : Bool) : onP o l t = true ↔ 0 ≤ l ∧ l ≤ 143 ∧ (o.1.val : Int) ≤ l + 16 ∧ l + 16 < o.1.val + rowsI t := by unfold onP; simp
theorem onP_no (o : Ob) (l : Int) (t : Bool) : onP o l t = false ↔ ¬ (0 ≤ l ∧ l ≤ 143 ∧ (o.1.val : Int) ≤ l + 16 ∧ l + 16 < o.1.val + rowsI t) := by unfold onP; simp
def rI (o : Ob) (l : Int) (t : Bool) : Int := if bitOf o.2.2.2.1.val 6 then rowsI t - 1 - (l + 16 - o.1.val) else l + 16 - o.1.val
def tileR (o : Ob) (l : Int) (t : Bool) : Int := if onP o l t then (if t then putOf o.2.2.1.val 0 false + rI o l t / 8 else o.2.2.1.val) else 0
def rowR (o : Ob) (l : Int) (t : Bool) : Int := if onP o l t then (if t then rI o l t % 8 else rI o l t) else 0
def colOn (o : Ob) (x : Int) : Bool := decide (0 ≤ x ∧ x ≤ 159 ∧ 0 ≤ x + 8 - o.2.1.val ∧ x + 8 - o.2.1.val ≤ 7)
def colI (o : Ob) (x : Int) : Int := if colOn o x then (if bitOf o.2.2.2.1.val 5 then 7 - (x + 8 - o.2.1.val) else x + 8 - o.2.1.val) else 0
theorem colOn_iff (o : Ob) (x : Int) : colOn o x = true ↔ 0 ≤ x ∧ x ≤ 159 ∧ 0 ≤ x + 8 - o.2.1.val ∧ x + 8 - o.2.1.val ≤ 7 := by unfold colOn; simp
theorem and64_fin : ∀ v : Fin 256, (bits .and .u8 (v.val : Int) 64 == 0) = !(bitOf (v.val : Int) 6) := by decide +kernel
theorem and32_fin : ∀ v : Fin 256, (bits .and .u8 (v.val : Int) 32 == 0) = !(bitOf (v.val : Int) 5) := by decide +kernel
theorem put0_fin : ∀ v : Fin 256, bits .andNot .u8 (v.val : Int) 1 = putOf (v.val : Int) 0 false ∧ 0 ≤ putOf (v.val : Int) 0 false ∧ putOf (v.val : Int) 0 false ≤ 254 := by decide +kernel
theorem xor64_fin : ∀ v : Fin 256, bitOf (bits .xor .u8 (v.val : Int) 64) 6 = !(bitOf (v.val : Int) 6) ∧ 0 ≤ bits .xor .u8 (v.val : Int) 64 ∧ bits .xor .u8 (v.val : Int) 64 ≤ 255 := by decide +kernel
theorem rI_in {o : Ob} {l : Int} {t : Bool} (h : onP o l t = true) : 0 ≤ rI o l t ∧ rI o l t < rowsI t := by
  rw [onP_iff] at h
  unfold rI
  split <;> omega
/-- An object's less, and what it adds. -/
def addI (o : Ob) (s : Int) : Int := if (o.2.1.val : Int) < 168 then 11 - min 5 ((o.2.1.val + s) % 8) else 0
def sumI (l : List Ob) (s : Int) : Nat → Int
  | 0 => s % 8
  | j + 1 => sumI l s j + addI (l.getD j default) s
theorem sum_yes {l : List Ob} {s : Int} {j : Nat} {o : Ob} (ho : l.getD j default = o) (h : (o.2.1.val : Int) < 168) : sumI l s (j + 1) = sumI l s j + (11 - min 5 ((o.2.1.val + s) % 8)) := by
  show sumI l s j + addI (l.getD j default) s = _
  rw [ho]; unfold addI; rw [if_pos h]
theorem sum_no {l : List Ob} {s : Int} {j : Nat} {o : Ob} (ho : l.getD j default = o) (h : ¬ (o.2.1.val : Int) < 168) : sumI l s (j + 1) = sumI l s j := by
  show sumI l s j + addI (l.getD j default) s = _
  rw [ho]; unfold addI; rw [if_neg h, Int.add_zero]
theorem sum_bd (l : List Ob) (s : Int) (h0 : 0 ≤ s) : ∀ j, 0 ≤ sumI l s j ∧ sumI l s j ≤ 7 + 11 * (j : Int)
  | 0 => by show 0 ≤ s % 8 ∧ s % 8 ≤ _; omega
  | j + 1 => by
    have := sum_bd l s h0 j
    have a : 0 ≤ addI (l.getD j default) s ∧ addI (l.getD j default) s ≤ 11 := by
      unfold addI
      split <;> omega
    show 0 ≤ sumI l s j + addI (l.getD j default) s ∧ sumI l s j + addI (l.getD j default) s ≤ _
    omega
end Go.Proofs.Ytecgpdjgbdobbab
namespace Go.Proofs.Ytecgpdjgbdobbab
open Go.RowKit
set_option linter.unusedVariables false
set_option linter.unusedSimpArgs false

def byF (z : List Int) (i : Nat) : Fin 256 := ⟨(z.getD i 0).toNat % 256, Nat.mod_lt _ (by decide)⟩
theorem getD_in {z : List Int} (h : ∀ x ∈ z, InByte x) (i : Nat) : InByte (z.getD i 0) := by
  rw [List.getD_eq_getElem?_getD]
  by_cases q : i < z.length
  · rw [List.getElem?_eq_getElem q]; exact h _ (List.getElem_mem q)
  · rw [List.getElem?_eq_none (by omega)]; exact ⟨by simp, by simp⟩
theorem byF_val {z : List Int} (h : ∀ x ∈ z, InByte x) (i : Nat) : ((byF z i).val : Int) = z.getD i 0 := by
  obtain ⟨a, b⟩ := getD_in h i
  unfold byF
  simp only
  omega
theorem byF_out {z : List Int} {i : Nat} (h : z.length ≤ i) : z.getD i 0 = 0 := by
  rw [List.getD_eq_getElem?_getD, List.getElem?_eq_none h]; rfl
/-- The object with a number. -/
def objN (z : List Int) (i : Nat) : Ob := (byF z (4 * i), byF z (4 * i + 1), byF z (4 * i + 2), byF z (4 * i + 3), ⟨i % 256, Nat.mod_lt _ (by decide)⟩)
/-- Of the first ones, those that stand on a line. -/
def scanTo (z : List Int) (l : Int) (t : Bool) : Nat → List Ob
  | 0 => []
  | j + 1 => if onP (objN z j) l t then scanTo z l t j ++ [objN z j] else scanTo z l t j
def scanL (z : List Int) (l : Int) (t : Bool) : List Ob := (scanTo z l t 40).take 10
theorem scan_yes {z : List Int} {l : Int} {t : Bool} {j : Nat} (h : onP (objN z j) l t = true) : scanTo z l t (j + 1) = scanTo z l t j ++ [objN z j] := by
  show (if _ then _ else _) = _; rw [if_pos h]
theorem scan_no {z : List Int} {l : Int} {t : Bool} {j : Nat} (h : onP (objN z j) l t = false) : scanTo z l t (j + 1) = scanTo z l t j := by
  show (if _ then _ else _) = _; rw [if_neg (by rw [h]; simp)]
theorem scan_len (z : List Int) (l : Int) (t : Bool) : ∀ j, (scanTo z l t j).length ≤ j
  | 0 => Nat.le_refl _
  | j + 1 => by
    have := scan_len z l t j
    cases h : onP (objN z j) l t
    · rw [scan_no h]; omega
    · rw [scan_yes h, List.length_append]; simp; omega
theorem scan_pre (z : List Int) (l : Int) (t : Bool) (j : Nat) : ∀ k, ∃ r, scanTo z l t (j + k) = scanTo z l t j ++ r
  | 0 => ⟨[], by simp⟩
  | k + 1 => by
    obtain ⟨r, e⟩ := scan_pre z l t j k
    cases h : onP (objN z (j + k)) l t
    · exact ⟨r, by rw [← Nat.add_assoc, scan_no h, e]⟩
    · exact ⟨r ++ [objN z (j + k)], by rw [← Nat.add_assoc, scan_yes h, e, List.append_assoc]⟩
theorem scan_stop {z : List Int} {l : Int} {t : Bool} {j : Nat} (hj : j ≤ 40) (h : (scanTo z l t j).length = 10) : scanL z l t = scanTo z l t j := by
  obtain ⟨r, e⟩ := scan_pre z l t j (40 - j)
  rw [show j + (40 - j) = 40 by omega] at e
  unfold scanL
  rw [e, List.take_append_of_le_length (by omega), List.take_of_length_le (by omega)]
theorem scan_end {z : List Int} {l : Int} {t : Bool} (h : (scanTo z l t 40).length ≤ 10) : scanL z l t = scanTo z l t 40 := by
  unfold scanL; rw [List.take_of_length_le h]
end Go.Proofs.Ytecgpdjgbdobbab
