/- A sheet's pixels as a list; colors: plain. -/
import Derived.Test.YtdimkeknjhdjfabSh17a
namespace Go.Proofs.Ytdimkeknjhdjfab
open Go.RowKit
set_option linter.unusedVariables false
set_option linter.unusedSimpArgs false

def pv (z : List Int) (i : Nat) : Value := .int .u8 (pixP (atP z ((2 * (i / 8) : Nat) : Int)) (atP z ((2 * (i / 8) + 1 : Nat) : Int)) ((i % 8 : Nat) : Int))
def pixTo (z : List Int) (k : Nat) : List Value := (List.range 24576).map fun i => if i < 8 * k then pv z i else .int .u8 0
def pixL (z : List Int) : List Value := pixTo z 3072
def colP (z : List Int) (t x y : Int) : Int := if 0 ≤ t ∧ t < 384 ∧ 0 ≤ x ∧ x < 8 ∧ 0 ≤ y ∧ y < 8 then pixP (atP z (16 * t + 2 * y)) (atP z (16 * t + 2 * y + 1)) x else 0
theorem pixTo_len (z : List Int) (k : Nat) : (pixTo z k).length = 24576 := by simp [pixTo]
theorem pixTo_at (z : List Int) (k i : Nat) (hi : i < 24576) : (pixTo z k)[i]? = some (if i < 8 * k then pv z i else .int .u8 0) := by
  unfold pixTo
  rw [List.getElem?_map, List.getElem?_range hi]
  rfl
theorem pixTo_0 (z : List Int) : pixTo z 0 = pix0 := by
  refine List.eq_replicate_iff.2 ⟨pixTo_len z 0, fun v hv => ?_⟩
  unfold pixTo at hv
  obtain ⟨i, _, rfl⟩ := List.mem_map.1 hv
  rw [if_neg (by omega)]
theorem rowL_get (lo hi : Int) (j : Nat) (h : j < 8) : (rowL lo hi)[j]? = some (.int .u8 (pixP lo hi ((j : Nat) : Int))) := by
  have e : j = 0 ∨ j = 1 ∨ j = 2 ∨ j = 3 ∨ j = 4 ∨ j = 5 ∨ j = 6 ∨ j = 7 := by omega
  rcases e with rfl | rfl | rfl | rfl | rfl | rfl | rfl | rfl <;> rfl
theorem pixTo_next (z : List Int) (k : Nat) (hk : k < 3072) : (pixTo z k).take (8 * k) ++ rowL (atP z ((2 * k : Nat) : Int)) (atP z ((2 * k + 1 : Nat) : Int)) ++ (pixTo z k).drop (8 * k + 8) = pixTo z (k + 1) := by
  have hl := pixTo_len z k
  have r8 : (rowL (atP z ((2 * k : Nat) : Int)) (atP z ((2 * k + 1 : Nat) : Int))).length = 8 := rfl
  have t8 : ((pixTo z k).take (8 * k)).length = 8 * k := by rw [List.length_take]; omega
  have d8 : ((pixTo z k).drop (8 * k + 8)).length = 24576 - (8 * k + 8) := by rw [List.length_drop]; omega
  apply List.ext_getElem?
  intro i
  by_cases hi : i < 24576
  · rw [pixTo_at z (k + 1) i hi]
    by_cases h1 : i < 8 * k
    · rw [List.getElem?_append_left (by rw [List.length_append]; omega), List.getElem?_append_left (by omega), List.getElem?_take_of_lt h1, pixTo_at z k i hi, if_pos h1, if_pos (by omega)]
    · by_cases h2 : i < 8 * k + 8
      · rw [List.getElem?_append_left (by rw [List.length_append]; omega), List.getElem?_append_right (by omega), t8, rowL_get _ _ _ (by omega), if_pos (by omega)]
        unfold pv
        rw [show i / 8 = k by omega, show i % 8 = i - 8 * k by omega]
      · rw [List.getElem?_append_right (by rw [List.length_append]; omega), List.length_append, t8, r8, List.getElem?_drop, show 8 * k + 8 + (i - (8 * k + 8)) = i by omega, pixTo_at z k i hi, if_neg (by omega), if_neg (by omega)]
  · rw [List.getElem?_eq_none (by rw [List.length_append, List.length_append, t8, r8, d8]; omega), List.getElem?_eq_none (by rw [pixTo_len]; omega)]
theorem pixL_len (z : List Int) : (pixL z).length = 24576 := pixTo_len z 3072
theorem pixL_at (z : List Int) (t x y : Nat) (ht : t < 384) (hx : x < 8) (hy : y < 8) : (pixL z)[64 * t + 8 * y + x]? = some (.int .u8 (colP z t x y)) := by
  unfold pixL
  rw [pixTo_at z 3072 _ (by omega), if_pos (by omega)]
  unfold pv colP
  rw [if_pos ⟨by omega, by omega, by omega, by omega, by omega, by omega⟩, show (64 * t + 8 * y + x) / 8 = 8 * t + y by omega, show (64 * t + 8 * y + x) % 8 = x by omega]
  have e1 : ((2 * (8 * t + y) : Nat) : Int) = 16 * (t : Int) + 2 * (y : Int) := by omega
  have e2 : ((2 * (8 * t + y) + 1 : Nat) : Int) = 16 * (t : Int) + 2 * (y : Int) + 1 := by omega
  rw [e1, e2]
theorem at_take (z : List Int) (i : Int) (h : i < 6144) : atP (z.take 6144) i = atP z i := by
  unfold atP
  rw [List.length_take]
  by_cases c : 0 ≤ i ∧ i < (z.length : Int)
  · rw [if_pos c, if_pos ⟨c.1, by omega⟩, List.getD_eq_getElem?_getD, List.getD_eq_getElem?_getD, List.getElem?_take_of_lt (by omega)]
  · rw [if_neg c, if_neg (by omega)]
theorem col_take (z : List Int) (t x y : Int) : colP (z.take 6144) t x y = colP z t x y := by
  unfold colP
  split
  · rw [at_take z _ (by omega), at_take z _ (by omega)]
  · rfl
theorem atP_in (z : List Int) (h : ∀ x ∈ z, InByte x) (i : Int) : 0 ≤ atP z i ∧ atP z i ≤ 255 := by
  unfold atP
  split
  · rename_i c
    have : z.getD i.toNat 0 ∈ z := by
      rw [List.getD_eq_getElem?_getD, List.getElem?_eq_getElem (by omega)]
      exact List.getElem_mem _
    exact h _ this
  · decide
theorem col_out (z : List Int) (t x y : Int) (h : ¬ (0 ≤ t ∧ t < 384 ∧ 0 ≤ x ∧ x < 8 ∧ 0 ≤ y ∧ y < 8)) : colP z t x y = 0 := if_neg h
end Go.Proofs.Ytdimkeknjhdjfab
