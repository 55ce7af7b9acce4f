/- What stands elsewhere in an image plays no part in what its head says. -/
import Derived.Test.YtfmehkaojfjdjaaDoorH9
namespace Go.Proofs.YtfmehkaojfjdjaaDoor
open Go.RowKit
set_option linter.unusedVariables false
set_option linter.unusedSimpArgs false

theorem tit_same (z y : List Int) (hz : 336 ≤ z.length) (hy : 336 ≤ y.length) (h : ∀ i, 308 ≤ i → i ≤ 333 → y.getD i 0 = z.getD i 0) : titL y = titL z := by
  unfold titL
  congr 1
  apply List.ext_getElem?
  intro i
  by_cases q : i < 16
  · rw [List.getElem?_take_of_lt q, List.getElem?_take_of_lt q, List.getElem?_drop, List.getElem?_drop]
    have e := h (308 + i) (by omega) (by omega)
    rw [List.getD_eq_getElem?_getD, List.getD_eq_getElem?_getD, List.getElem?_eq_getElem (by omega), List.getElem?_eq_getElem (by omega)] at e
    rw [List.getElem?_eq_getElem (by omega), List.getElem?_eq_getElem (by omega)]
    exact congrArg some e
  · rw [List.getElem?_eq_none (by simp; omega), List.getElem?_eq_none (by simp; omega)]
theorem parse_same (z y : List Int) (hl : y.length = z.length) (h : ∀ i, 308 ≤ i → i ≤ 333 → y.getD i 0 = z.getD i 0) : parseE y = parseE z := by
  unfold parseE
  rw [hl, h 327 (by omega) (by omega), h 328 (by omega) (by omega), h 329 (by omega) (by omega), h 333 (by omega) (by omega), show sumOf y = sumOf z from sumTo_congr y z 25 (fun i hi => h (308 + i) (by omega) (by omega))]
theorem head_same (z y : List Int) (hl : y.length = z.length) (h : ∀ i, 308 ≤ i → i ≤ 333 → y.getD i 0 = z.getD i 0) (ok : parseE z = 0) : parseH y = { parseH z with whole := 256 * y.getD 334 0 + y.getD 335 0 } := by
  have oy : parseE y = 0 := (parse_same z y hl h).trans ok
  have l := (parse_sum z ok).1
  unfold parseH
  rw [if_pos ok, if_pos oy, tit_same z y l (by omega) h, h 327 (by omega) (by omega), h 328 (by omega) (by omega), h 329 (by omega) (by omega), show sumOf y = sumOf z from sumTo_congr y z 25 (fun i hi => h (308 + i) (by omega) (by omega))]
theorem getD_more (z : List Int) (b : Int) (i : Nat) (h : i < z.length) : (z ++ [b]).getD i 0 = z.getD i 0 := by
  rw [List.getD_eq_getElem?_getD, List.getD_eq_getElem?_getD, List.getElem?_append_left h]
theorem head_more (z : List Int) (b : Int) (ok : parseE z = 0) (oy : parseE (z ++ [b]) = 0) : (parseH (z ++ [b])).title = (parseH z).title ∧ (parseH (z ++ [b])).banks = (parseH z).banks := by
  have l := (parse_sum z ok).1
  have h : ∀ i, 308 ≤ i → i ≤ 333 → (z ++ [b]).getD i 0 = z.getD i 0 := fun i _ hi => getD_more z b i (by omega)
  unfold parseH
  rw [if_pos ok, if_pos oy]
  refine ⟨?_, ?_⟩
  · show strB (titL _) = strB (titL _); rw [tit_same z (z ++ [b]) l (by simp; omega) h]
  · show mostOf _ / 16384 = mostOf _ / 16384; rw [h 328 (by omega) (by omega)]
theorem parse_size (z : List Int) (ok : parseE z = 0) : kindOk (z.getD 327 0) = true ∧ z.getD 328 0 ≤ 8 ∧ z.getD 329 0 ≤ 5 ∧ (z.length : Int) ≤ mostOf (z.getD 328 0) := by
  unfold parseE at ok
  split at ok
  · cases ok
  · split at ok
    · cases ok
    · rename_i h2
      split at ok
      · cases ok
      · rename_i h3
        exact ⟨by simpa using h2, by omega, by omega, by omega⟩
theorem parse_more (z : List Int) (b : Int) (ok : parseE z = 0) : parseE (z ++ [b]) = 0 ∨ (parseE (z ++ [b]) = 5 ∧ (z.length : Int) = mostOf (z.getD 328 0)) := by
  obtain ⟨l, sm⟩ := parse_sum z ok
  obtain ⟨p1, p2, p3, p4⟩ := parse_size z ok
  have h : ∀ i, 308 ≤ i → i ≤ 333 → (z ++ [b]).getD i 0 = z.getD i 0 := fun i _ hi => getD_more z b i (by omega)
  have ln : (z ++ [b]).length = z.length + 1 := by simp
  by_cases q : (z.length : Int) = mostOf (z.getD 328 0)
  · right
    refine ⟨?_, q⟩
    unfold parseE
    rw [ln, h 327 (by omega) (by omega), h 328 (by omega) (by omega), h 329 (by omega) (by omega), if_neg (by omega), if_neg (by rw [p1]; decide), if_pos (by omega)]
  · left
    unfold parseE
    rw [ln, h 327 (by omega) (by omega), h 328 (by omega) (by omega), h 329 (by omega) (by omega), h 333 (by omega) (by omega), show sumOf (z ++ [b]) = sumOf z from sumTo_congr _ z 25 (fun i hi => h (308 + i) (by omega) (by omega)), if_neg (by omega), if_neg (by rw [p1]; decide), if_neg (by omega), if_neg (fun e => e sm)]
end Go.Proofs.YtfmehkaojfjdjaaDoor
