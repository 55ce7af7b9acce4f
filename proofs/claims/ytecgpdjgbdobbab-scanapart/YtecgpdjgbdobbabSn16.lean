/- Plain: the objects of a memory, and those of a line. -/
import Derived.Test.YtecgpdjgbdobbabRp16
import Derived.Test.YtecgpdjgbdobbabRow7
namespace Go.Proofs.Ytecgpdjgbdobbab
open Go.RowKit
set_option linter.unusedVariables false
set_option linter.unusedSimpArgs false

def byF (z : List Int) (i : Nat) : Fin 256 := ⟨(z.getD i 0).toNat % 256, Nat.mod_lt _ (by decide)⟩
theorem getD_in {z : List Int} (h : ∀ x ∈ z, InByte x) (i : Nat) : InByte (z.getD i 0) := by
  rw [List.getD_eq_getElem?_getD]
  by_cases q : i < z.length
  · rw [List.getElem?_eq_getElem q]; exact h _ (List.getElem_mem q)
  · rw [List.getElem?_eq_none (by omega)]; exact ⟨by simp, by simp⟩
theorem byF_val {z : List Int} (h : ∀ x ∈ z, InByte x) (i : Nat) : ((byF z i).val : Int) = z.getD i 0 := by
  obtain ⟨a, b⟩ := getD_in h i
  unfold byF
  simp only
  omega
theorem byF_out {z : List Int} {i : Nat} (h : z.length ≤ i) : z.getD i 0 = 0 := by
  rw [List.getD_eq_getElem?_getD, List.getElem?_eq_none h]; rfl
/-- The object with a number. -/
def objN (z : List Int) (i : Nat) : Ob := (byF z (4 * i), byF z (4 * i + 1), byF z (4 * i + 2), byF z (4 * i + 3), ⟨i % 256, Nat.mod_lt _ (by decide)⟩)
/-- Of the first ones, those that stand on a line. -/
def scanTo (z : List Int) (l : Int) (t : Bool) : Nat → List Ob
  | 0 => []
  | j + 1 => if onP (objN z j) l t then scanTo z l t j ++ [objN z j] else scanTo z l t j
def scanL (z : List Int) (l : Int) (t : Bool) : List Ob := (scanTo z l t 40).take 10
theorem scan_yes {z : List Int} {l : Int} {t : Bool} {j : Nat} (h : onP (objN z j) l t = true) : scanTo z l t (j + 1) = scanTo z l t j ++ [objN z j] := by
  show (if _ then _ else _) = _; rw [if_pos h]
theorem scan_no {z : List Int} {l : Int} {t : Bool} {j : Nat} (h : onP (objN z j) l t = false) : scanTo z l t (j + 1) = scanTo z l t j := by
  show (if _ then _ else _) = _; rw [if_neg (by rw [h]; simp)]
theorem scan_len (z : List Int) (l : Int) (t : Bool) : ∀ j, (scanTo z l t j).length ≤ j
  | 0 => Nat.le_refl _
  | j + 1 => by
    have := scan_len z l t j
    cases h : onP (objN z j) l t
    · rw [scan_no h]; omega
    · rw [scan_yes h, List.length_append]; simp; omega
theorem scan_pre (z : List Int) (l : Int) (t : Bool) (j : Nat) : ∀ k, ∃ r, scanTo z l t (j + k) = scanTo z l t j ++ r
  | 0 => ⟨[], by simp⟩
  | k + 1 => by
    obtain ⟨r, e⟩ := scan_pre z l t j k
    cases h : onP (objN z (j + k)) l t
    · exact ⟨r, by rw [← Nat.add_assoc, scan_no h, e]⟩
    · exact ⟨r ++ [objN z (j + k)], by rw [← Nat.add_assoc, scan_yes h, e, List.append_assoc]⟩
theorem scan_stop {z : List Int} {l : Int} {t : Bool} {j : Nat} (hj : j ≤ 40) (h : (scanTo z l t j).length = 10) : scanL z l t = scanTo z l t j := by
  obtain ⟨r, e⟩ := scan_pre z l t j (40 - j)
  rw [show j + (40 - j) = 40 by omega] at e
  unfold scanL
  rw [e, List.take_append_of_le_length (by omega), List.take_of_length_le (by omega)]
theorem scan_end {z : List Int} {l : Int} {t : Bool} (h : (scanTo z l t 40).length ≤ 10) : scanL z l t = scanTo z l t 40 := by
  unfold scanL; rw [List.take_of_length_le h]
end Go.Proofs.Ytecgpdjgbdobbab
