/- The document's Words of layer 21, over this seat's translation. -/
import Derived.Test.YtbflhpffojlpgaaDoorPm21d
namespace Go.Proofs.YtbflhpffojlpgaaDoor
open Go.RowKit
set_option linter.unusedVariables false
set_option linter.unusedSimpArgs false

set_option maxRecDepth 100000 in
set_option maxHeartbeats 4000000 in
theorem rwrd_1 (x y b c t : Int) (w : World) : Calls Tryd.prog 24 #[.agg #[.int .i64 1, .int .i64 x, .int .i64 y, .int .i64 b, .int .i64 c, .int .i64 t]] w fun e w' => e = .returned (.string (wordsS 1 x y)) ∧ Kept w w' := by
  go_enter Tryd.func24, Tryd.ntmps24
  go_wp2
  go_ret
  exact ⟨rfl, (Kept.refl w).alloc _⟩
set_option maxRecDepth 100000 in
set_option maxHeartbeats 4000000 in
theorem rwrd_24 (x y b c t : Int) (w : World) : Calls Tryd.prog 24 #[.agg #[.int .i64 24, .int .i64 x, .int .i64 y, .int .i64 b, .int .i64 c, .int .i64 t]] w fun e w' => e = .returned (.string (wordsS 24 x y)) ∧ Kept w w' := by
  go_enter Tryd.func24, Tryd.ntmps24
  go_wp2
  go_ret
  exact ⟨rfl, (Kept.refl w).alloc _⟩
set_option maxRecDepth 100000 in
set_option maxHeartbeats 4000000 in
theorem rwrd_9 (x y b c t : Int) (w : World) : Calls Tryd.prog 24 #[.agg #[.int .i64 9, .int .i64 x, .int .i64 y, .int .i64 b, .int .i64 c, .int .i64 t]] w fun e w' => e = .returned (.string (wordsS 9 x y)) ∧ Kept w w' := by
  go_enter Tryd.func24, Tryd.ntmps24
  go_wp2
  go_ret
  exact ⟨rfl, (Kept.refl w).alloc _⟩
set_option maxRecDepth 100000 in
set_option maxHeartbeats 4000000 in
theorem rwrd_10 (x y b c t : Int) (w : World) : Calls Tryd.prog 24 #[.agg #[.int .i64 10, .int .i64 x, .int .i64 y, .int .i64 b, .int .i64 c, .int .i64 t]] w fun e w' => e = .returned (.string (wordsS 10 x y)) ∧ Kept w w' := by
  go_enter Tryd.func24, Tryd.ntmps24
  go_wp2
  go_ret
  exact ⟨rfl, (Kept.refl w).alloc _⟩
set_option maxRecDepth 100000 in
set_option maxHeartbeats 4000000 in
theorem rwrd_11 (x y b c t : Int) (w : World) : Calls Tryd.prog 24 #[.agg #[.int .i64 11, .int .i64 x, .int .i64 y, .int .i64 b, .int .i64 c, .int .i64 t]] w fun e w' => e = .returned (.string (wordsS 11 x y)) ∧ Kept w w' := by
  go_enter Tryd.func24, Tryd.ntmps24
  go_wp2
  go_ret
  exact ⟨rfl, (Kept.refl w).alloc _⟩
set_option maxRecDepth 100000 in
set_option maxHeartbeats 4000000 in
theorem rwrd_12 (x y b c t : Int) (w : World) : Calls Tryd.prog 24 #[.agg #[.int .i64 12, .int .i64 x, .int .i64 y, .int .i64 b, .int .i64 c, .int .i64 t]] w fun e w' => e = .returned (.string (wordsS 12 x y)) ∧ Kept w w' := by
  go_enter Tryd.func24, Tryd.ntmps24
  go_wp2
  go_ret
  exact ⟨rfl, (Kept.refl w).alloc _⟩
set_option maxRecDepth 100000 in
set_option maxHeartbeats 4000000 in
theorem rwrd_13 (x y b c t : Int) (w : World) : Calls Tryd.prog 24 #[.agg #[.int .i64 13, .int .i64 x, .int .i64 y, .int .i64 b, .int .i64 c, .int .i64 t]] w fun e w' => e = .returned (.string (wordsS 13 x y)) ∧ Kept w w' := by
  go_enter Tryd.func24, Tryd.ntmps24
  go_wp2
  go_ret
  exact ⟨rfl, (Kept.refl w).alloc _⟩
set_option maxRecDepth 100000 in
set_option maxHeartbeats 4000000 in
theorem rwrd_14 (x y b c t : Int) (w : World) : Calls Tryd.prog 24 #[.agg #[.int .i64 14, .int .i64 x, .int .i64 y, .int .i64 b, .int .i64 c, .int .i64 t]] w fun e w' => e = .returned (.string (wordsS 14 x y)) ∧ Kept w w' := by
  go_enter Tryd.func24, Tryd.ntmps24
  go_wp2
  go_ret
  exact ⟨rfl, (Kept.refl w).alloc _⟩
set_option maxRecDepth 100000 in
set_option maxHeartbeats 4000000 in
theorem rwrd_15 (x y b c t : Int) (w : World) : Calls Tryd.prog 24 #[.agg #[.int .i64 15, .int .i64 x, .int .i64 y, .int .i64 b, .int .i64 c, .int .i64 t]] w fun e w' => e = .returned (.string (wordsS 15 x y)) ∧ Kept w w' := by
  go_enter Tryd.func24, Tryd.ntmps24
  go_wp2
  go_ret
  exact ⟨rfl, (Kept.refl w).alloc _⟩
set_option maxRecDepth 100000 in
set_option maxHeartbeats 4000000 in
theorem rwrd_16 (x y b c t : Int) (w : World) : Calls Tryd.prog 24 #[.agg #[.int .i64 16, .int .i64 x, .int .i64 y, .int .i64 b, .int .i64 c, .int .i64 t]] w fun e w' => e = .returned (.string (wordsS 16 x y)) ∧ Kept w w' := by
  go_enter Tryd.func24, Tryd.ntmps24
  go_wp2
  go_ret
  exact ⟨rfl, (Kept.refl w).alloc _⟩
set_option maxRecDepth 100000 in
set_option maxHeartbeats 4000000 in
theorem rwrd_17 (x y b c t : Int) (w : World) : Calls Tryd.prog 24 #[.agg #[.int .i64 17, .int .i64 x, .int .i64 y, .int .i64 b, .int .i64 c, .int .i64 t]] w fun e w' => e = .returned (.string (wordsS 17 x y)) ∧ Kept w w' := by
  go_enter Tryd.func24, Tryd.ntmps24
  go_wp2
  go_ret
  exact ⟨rfl, (Kept.refl w).alloc _⟩
set_option maxRecDepth 100000 in
set_option maxHeartbeats 4000000 in
theorem rwrd_18 (x y b c t : Int) (w : World) : Calls Tryd.prog 24 #[.agg #[.int .i64 18, .int .i64 x, .int .i64 y, .int .i64 b, .int .i64 c, .int .i64 t]] w fun e w' => e = .returned (.string (wordsS 18 x y)) ∧ Kept w w' := by
  go_enter Tryd.func24, Tryd.ntmps24
  go_wp2
  go_ret
  exact ⟨rfl, (Kept.refl w).alloc _⟩
set_option maxRecDepth 100000 in
set_option maxHeartbeats 4000000 in
theorem rwrd_19 (x y b c t : Int) (w : World) : Calls Tryd.prog 24 #[.agg #[.int .i64 19, .int .i64 x, .int .i64 y, .int .i64 b, .int .i64 c, .int .i64 t]] w fun e w' => e = .returned (.string (wordsS 19 x y)) ∧ Kept w w' := by
  go_enter Tryd.func24, Tryd.ntmps24
  go_wp2
  go_ret
  exact ⟨rfl, (Kept.refl w).alloc _⟩
set_option maxRecDepth 100000 in
set_option maxHeartbeats 4000000 in
theorem rwrd_27 (x y b c t : Int) (w : World) : Calls Tryd.prog 24 #[.agg #[.int .i64 27, .int .i64 x, .int .i64 y, .int .i64 b, .int .i64 c, .int .i64 t]] w fun e w' => e = .returned (.string (wordsS 27 x y)) ∧ Kept w w' := by
  go_enter Tryd.func24, Tryd.ntmps24
  go_wp2
  go_ret
  exact ⟨rfl, (Kept.refl w).alloc _⟩
set_option maxRecDepth 100000 in
set_option maxHeartbeats 4000000 in
theorem rwrd_28 (x y b c t : Int) (w : World) : Calls Tryd.prog 24 #[.agg #[.int .i64 28, .int .i64 x, .int .i64 y, .int .i64 b, .int .i64 c, .int .i64 t]] w fun e w' => e = .returned (.string (wordsS 28 x y)) ∧ Kept w w' := by
  go_enter Tryd.func24, Tryd.ntmps24
  go_wp2
  go_ret
  exact ⟨rfl, (Kept.refl w).alloc _⟩
set_option maxRecDepth 100000 in
set_option maxHeartbeats 4000000 in
theorem rwrd_29 (x y b c t : Int) (w : World) : Calls Tryd.prog 24 #[.agg #[.int .i64 29, .int .i64 x, .int .i64 y, .int .i64 b, .int .i64 c, .int .i64 t]] w fun e w' => e = .returned (.string (wordsS 29 x y)) ∧ Kept w w' := by
  go_enter Tryd.func24, Tryd.ntmps24
  go_wp2
  go_ret
  exact ⟨rfl, (Kept.refl w).alloc _⟩
set_option maxRecDepth 100000 in
set_option maxHeartbeats 4000000 in
theorem rwrd_20 (x y b c t : Int) (w : World) : Calls Tryd.prog 24 #[.agg #[.int .i64 20, .int .i64 x, .int .i64 y, .int .i64 b, .int .i64 c, .int .i64 t]] w fun e w' => e = .returned (.string (wordsS 20 x y)) ∧ Kept w w' := by
  go_enter Tryd.func24, Tryd.ntmps24
  go_wp2
  go_ret
  exact ⟨rfl, (Kept.refl w).alloc _⟩
set_option maxRecDepth 100000 in
set_option maxHeartbeats 4000000 in
theorem rwrd_30 (x y b c t : Int) (w : World) : Calls Tryd.prog 24 #[.agg #[.int .i64 30, .int .i64 x, .int .i64 y, .int .i64 b, .int .i64 c, .int .i64 t]] w fun e w' => e = .returned (.string (wordsS 30 x y)) ∧ Kept w w' := by
  go_enter Tryd.func24, Tryd.ntmps24
  go_wp2
  go_ret
  exact ⟨rfl, (Kept.refl w).alloc _⟩
set_option maxRecDepth 100000 in
set_option maxHeartbeats 4000000 in
theorem rwrd_21 (x y b c t : Int) (w : World) : Calls Tryd.prog 24 #[.agg #[.int .i64 21, .int .i64 x, .int .i64 y, .int .i64 b, .int .i64 c, .int .i64 t]] w fun e w' => e = .returned (.string (wordsS 21 x y)) ∧ Kept w w' := by
  go_enter Tryd.func24, Tryd.ntmps24
  go_wp2
  go_ret
  exact ⟨rfl, (Kept.refl w).alloc _⟩
set_option maxRecDepth 100000 in
set_option maxHeartbeats 4000000 in
theorem rwrd_22 (x y b c t : Int) (w : World) : Calls Tryd.prog 24 #[.agg #[.int .i64 22, .int .i64 x, .int .i64 y, .int .i64 b, .int .i64 c, .int .i64 t]] w fun e w' => e = .returned (.string (wordsS 22 x y)) ∧ Kept w w' := by
  go_enter Tryd.func24, Tryd.ntmps24
  go_wp2
  go_ret
  exact ⟨rfl, (Kept.refl w).alloc _⟩
set_option maxRecDepth 100000 in
set_option maxHeartbeats 4000000 in
theorem rwrd_36 (x y b c t : Int) (w : World) : Calls Tryd.prog 24 #[.agg #[.int .i64 36, .int .i64 x, .int .i64 y, .int .i64 b, .int .i64 c, .int .i64 t]] w fun e w' => e = .returned (.string (wordsS 36 x y)) ∧ Kept w w' := by
  go_enter Tryd.func24, Tryd.ntmps24
  go_wp2
  go_ret
  exact ⟨rfl, (Kept.refl w).alloc _⟩
set_option maxRecDepth 100000 in
set_option maxHeartbeats 4000000 in
theorem rwrd_37 (x y b c t : Int) (w : World) : Calls Tryd.prog 24 #[.agg #[.int .i64 37, .int .i64 x, .int .i64 y, .int .i64 b, .int .i64 c, .int .i64 t]] w fun e w' => e = .returned (.string (wordsS 37 x y)) ∧ Kept w w' := by
  go_enter Tryd.func24, Tryd.ntmps24
  go_wp2
  go_ret
  exact ⟨rfl, (Kept.refl w).alloc _⟩
set_option maxRecDepth 100000 in
set_option maxHeartbeats 4000000 in
theorem rwrd_39 (x y b c t : Int) (w : World) : Calls Tryd.prog 24 #[.agg #[.int .i64 39, .int .i64 x, .int .i64 y, .int .i64 b, .int .i64 c, .int .i64 t]] w fun e w' => e = .returned (.string (wordsS 39 x y)) ∧ Kept w w' := by
  go_enter Tryd.func24, Tryd.ntmps24
  go_wp2
  go_ret
  exact ⟨rfl, (Kept.refl w).alloc _⟩
set_option maxRecDepth 100000 in
set_option maxHeartbeats 4000000 in
theorem rwrd_41 (x y b c t : Int) (w : World) : Calls Tryd.prog 24 #[.agg #[.int .i64 41, .int .i64 x, .int .i64 y, .int .i64 b, .int .i64 c, .int .i64 t]] w fun e w' => e = .returned (.string (wordsS 41 x y)) ∧ Kept w w' := by
  go_enter Tryd.func24, Tryd.ntmps24
  go_wp2
  go_ret
  exact ⟨rfl, (Kept.refl w).alloc _⟩
set_option maxRecDepth 100000 in
set_option maxHeartbeats 4000000 in
theorem rwrd_42 (x y b c t : Int) (w : World) : Calls Tryd.prog 24 #[.agg #[.int .i64 42, .int .i64 x, .int .i64 y, .int .i64 b, .int .i64 c, .int .i64 t]] w fun e w' => e = .returned (.string (wordsS 42 x y)) ∧ Kept w w' := by
  go_enter Tryd.func24, Tryd.ntmps24
  go_wp2
  go_ret
  exact ⟨rfl, (Kept.refl w).alloc _⟩
set_option maxRecDepth 100000 in
set_option maxHeartbeats 4000000 in
theorem rwrd_8 (x y b c t : Int) (w : World) : Calls Tryd.prog 24 #[.agg #[.int .i64 8, .int .i64 x, .int .i64 y, .int .i64 b, .int .i64 c, .int .i64 t]] w fun e w' => e = .returned (.string (wordsS 8 x y)) ∧ Kept w w' := by
  by_cases hx : x = 6
  · have E := hid (show wordsS 8 x y = ⟨#[108, 87]⟩ by simp [wordsS, hx])
    have gx : (x == 6) = true := by simp [hx]
    clear hx
    go_enter Tryd.func24, Tryd.ntmps24
    go_wp2
    go_ret
    exact ⟨by rw [E.out]; rfl, (Kept.refl w).alloc _⟩
  · have E := hid (show wordsS 8 x y = ⟨#[108]⟩ by simp [wordsS, hx])
    have gx : (x == 6) = false := by simp [hx]
    clear hx
    go_enter Tryd.func24, Tryd.ntmps24
    go_wp2
    go_ret
    exact ⟨by rw [E.out]; rfl, (Kept.refl w).alloc _⟩
set_option maxRecDepth 100000 in
set_option maxHeartbeats 4000000 in
theorem rwrd_23 (x y b c t : Int) (w : World) : Calls Tryd.prog 24 #[.agg #[.int .i64 23, .int .i64 x, .int .i64 y, .int .i64 b, .int .i64 c, .int .i64 t]] w fun e w' => e = .returned (.string (wordsS 23 x y)) ∧ Kept w w' := by
  by_cases hy : y = 6
  · have E := hid (show wordsS 23 x y = ⟨#[114]⟩ by simp [wordsS, hy])
    have gy : (y == 6) = true := by simp [hy]
    clear hy
    go_enter Tryd.func24, Tryd.ntmps24
    go_wp2
    go_ret
    exact ⟨by rw [E.out]; rfl, (Kept.refl w).alloc _⟩
  · have E := hid (show wordsS 23 x y = ⟨#[]⟩ by simp [wordsS, hy])
    have gy : (y == 6) = false := by simp [hy]
    clear hy
    go_enter Tryd.func24, Tryd.ntmps24
    go_wp2
    go_ret
    exact ⟨by rw [E.out]; rfl, (Kept.refl w).alloc _⟩
set_option maxRecDepth 100000 in
set_option maxHeartbeats 4000000 in
theorem rwrd_44 (x y b c t : Int) (w : World) : Calls Tryd.prog 24 #[.agg #[.int .i64 44, .int .i64 x, .int .i64 y, .int .i64 b, .int .i64 c, .int .i64 t]] w fun e w' => e = .returned (.string (wordsS 44 x y)) ∧ Kept w w' := by
  by_cases hy : y = 6
  · have E := hid (show wordsS 44 x y = ⟨#[114]⟩ by simp [wordsS, hy])
    have gy : (y == 6) = true := by simp [hy]
    clear hy
    go_enter Tryd.func24, Tryd.ntmps24
    go_wp2
    go_ret
    exact ⟨by rw [E.out]; rfl, (Kept.refl w).alloc _⟩
  · have E := hid (show wordsS 44 x y = ⟨#[]⟩ by simp [wordsS, hy])
    have gy : (y == 6) = false := by simp [hy]
    clear hy
    go_enter Tryd.func24, Tryd.ntmps24
    go_wp2
    go_ret
    exact ⟨by rw [E.out]; rfl, (Kept.refl w).alloc _⟩
set_option maxRecDepth 100000 in
set_option maxHeartbeats 4000000 in
theorem rwrd_25 (x y b c t : Int) (w : World) : Calls Tryd.prog 24 #[.agg #[.int .i64 25, .int .i64 x, .int .i64 y, .int .i64 b, .int .i64 c, .int .i64 t]] w fun e w' => e = .returned (.string (wordsS 25 x y)) ∧ Kept w w' := by
  by_cases hx : x = 6
  · have E := hid (show wordsS 25 x y = ⟨#[114, 100]⟩ by simp [wordsS, hx])
    have gx : (x == 6) = true := by simp [hx]
    clear hx
    go_enter Tryd.func24, Tryd.ntmps24
    go_wp2
    go_ret
    exact ⟨by rw [E.out]; rfl, (Kept.refl w).alloc _⟩
  · have E := hid (show wordsS 25 x y = ⟨#[]⟩ by simp [wordsS, hx])
    have gx : (x == 6) = false := by simp [hx]
    clear hx
    go_enter Tryd.func24, Tryd.ntmps24
    go_wp2
    go_ret
    exact ⟨by rw [E.out]; rfl, (Kept.refl w).alloc _⟩
set_option maxRecDepth 100000 in
set_option maxHeartbeats 4000000 in
theorem rwrd_26 (x y b c t : Int) (w : World) : Calls Tryd.prog 24 #[.agg #[.int .i64 26, .int .i64 x, .int .i64 y, .int .i64 b, .int .i64 c, .int .i64 t]] w fun e w' => e = .returned (.string (wordsS 26 x y)) ∧ Kept w w' := by
  by_cases hx : x = 6
  · have E := hid (show wordsS 26 x y = ⟨#[114, 100]⟩ by simp [wordsS, hx])
    have gx : (x == 6) = true := by simp [hx]
    clear hx
    go_enter Tryd.func24, Tryd.ntmps24
    go_wp2
    go_ret
    exact ⟨by rw [E.out]; rfl, (Kept.refl w).alloc _⟩
  · have E := hid (show wordsS 26 x y = ⟨#[]⟩ by simp [wordsS, hx])
    have gx : (x == 6) = false := by simp [hx]
    clear hx
    go_enter Tryd.func24, Tryd.ntmps24
    go_wp2
    go_ret
    exact ⟨by rw [E.out]; rfl, (Kept.refl w).alloc _⟩
set_option maxRecDepth 100000 in
set_option maxHeartbeats 4000000 in
theorem rwrd_43 (x y b c t : Int) (w : World) : Calls Tryd.prog 24 #[.agg #[.int .i64 43, .int .i64 x, .int .i64 y, .int .i64 b, .int .i64 c, .int .i64 t]] w fun e w' => e = .returned (.string (wordsS 43 x y)) ∧ Kept w w' := by
  by_cases hy : y = 6
  · have E := hid (show wordsS 43 x y = ⟨#[114, 100]⟩ by simp [wordsS, hy])
    have gy : (y == 6) = true := by simp [hy]
    clear hy
    go_enter Tryd.func24, Tryd.ntmps24
    go_wp2
    go_ret
    exact ⟨by rw [E.out]; rfl, (Kept.refl w).alloc _⟩
  · have E := hid (show wordsS 43 x y = ⟨#[]⟩ by simp [wordsS, hy])
    have gy : (y == 6) = false := by simp [hy]
    clear hy
    go_enter Tryd.func24, Tryd.ntmps24
    go_wp2
    go_ret
    exact ⟨by rw [E.out]; rfl, (Kept.refl w).alloc _⟩
set_option maxRecDepth 100000 in
set_option maxHeartbeats 4000000 in
theorem rwrd_45 (x y b c t : Int) (w : World) : Calls Tryd.prog 24 #[.agg #[.int .i64 45, .int .i64 x, .int .i64 y, .int .i64 b, .int .i64 c, .int .i64 t]] w fun e w' => e = .returned (.string (wordsS 45 x y)) ∧ Kept w w' := by
  by_cases hy : y = 6
  · have E := hid (show wordsS 45 x y = ⟨#[114, 100]⟩ by simp [wordsS, hy])
    have gy : (y == 6) = true := by simp [hy]
    clear hy
    go_enter Tryd.func24, Tryd.ntmps24
    go_wp2
    go_ret
    exact ⟨by rw [E.out]; rfl, (Kept.refl w).alloc _⟩
  · have E := hid (show wordsS 45 x y = ⟨#[]⟩ by simp [wordsS, hy])
    have gy : (y == 6) = false := by simp [hy]
    clear hy
    go_enter Tryd.func24, Tryd.ntmps24
    go_wp2
    go_ret
    exact ⟨by rw [E.out]; rfl, (Kept.refl w).alloc _⟩
set_option maxRecDepth 100000 in
set_option maxHeartbeats 4000000 in
theorem rwrd_46 (x y b c t : Int) (w : World) : Calls Tryd.prog 24 #[.agg #[.int .i64 46, .int .i64 x, .int .i64 y, .int .i64 b, .int .i64 c, .int .i64 t]] w fun e w' => e = .returned (.string (wordsS 46 x y)) ∧ Kept w w' := by
  by_cases hy : y = 6
  · have E := hid (show wordsS 46 x y = ⟨#[114, 100]⟩ by simp [wordsS, hy])
    have gy : (y == 6) = true := by simp [hy]
    clear hy
    go_enter Tryd.func24, Tryd.ntmps24
    go_wp2
    go_ret
    exact ⟨by rw [E.out]; rfl, (Kept.refl w).alloc _⟩
  · have E := hid (show wordsS 46 x y = ⟨#[]⟩ by simp [wordsS, hy])
    have gy : (y == 6) = false := by simp [hy]
    clear hy
    go_enter Tryd.func24, Tryd.ntmps24
    go_wp2
    go_ret
    exact ⟨by rw [E.out]; rfl, (Kept.refl w).alloc _⟩
set_option maxRecDepth 100000 in
set_option maxHeartbeats 4000000 in
theorem rwrd_7 (x y b c t : Int) (w : World) : Calls Tryd.prog 24 #[.agg #[.int .i64 7, .int .i64 x, .int .i64 y, .int .i64 b, .int .i64 c, .int .i64 t]] w fun e w' => e = .returned (.string (wordsS 7 x y)) ∧ Kept w w' := by
  by_cases hy : y = 6
  · have E := hid (show wordsS 7 x y = ⟨#[114]⟩ by simp [wordsS, hy])
    have gy : (y == 6) = true := by simp [hy]
    clear hy
    go_enter Tryd.func24, Tryd.ntmps24
    go_wp2
    go_ret
    exact ⟨by rw [E.out]; rfl, (Kept.refl w).alloc _⟩
  by_cases hx : x = 6
  · have E := hid (show wordsS 7 x y = ⟨#[119]⟩ by simp [wordsS, hy, hx])
    have gy : (y == 6) = false := by simp [hy]
    have gx : (x == 6) = true := by simp [hx]
    clear hy
    clear hx
    go_enter Tryd.func24, Tryd.ntmps24
    go_wp2
    go_ret
    exact ⟨by rw [E.out]; rfl, (Kept.refl w).alloc _⟩
  · have E := hid (show wordsS 7 x y = ⟨#[]⟩ by simp [wordsS, hy, hx])
    have gy : (y == 6) = false := by simp [hy]
    have gx : (x == 6) = false := by simp [hx]
    clear hy
    clear hx
    go_enter Tryd.func24, Tryd.ntmps24
    go_wp2
    go_ret
    exact ⟨by rw [E.out]; rfl, (Kept.refl w).alloc _⟩
set_option maxRecDepth 100000 in
set_option maxHeartbeats 4000000 in
theorem rwrd_40 (x y b c t : Int) (w : World) : Calls Tryd.prog 24 #[.agg #[.int .i64 40, .int .i64 x, .int .i64 y, .int .i64 b, .int .i64 c, .int .i64 t]] w fun e w' => e = .returned (.string (wordsS 40 x y)) ∧ Kept w w' := by
  by_cases hx : x < 4
  · have E := hid (show wordsS 40 x y = ⟨#[105, 46, 111, 79, 105]⟩ by simp [wordsS, hx])
    have gx : decide (x < 4) = true := decide_eq_true hx
    clear hx
    go_enter Tryd.func24, Tryd.ntmps24
    go_wp2
    go_ret
    exact ⟨by rw [E.out]; rfl, (Kept.refl w).alloc _⟩
  · have E := hid (show wordsS 40 x y = ⟨#[111, 79, 105]⟩ by simp [wordsS, hx])
    have gx : decide (x < 4) = false := decide_eq_false hx
    clear hx
    go_enter Tryd.func24, Tryd.ntmps24
    go_wp2
    go_ret
    exact ⟨by rw [E.out]; rfl, (Kept.refl w).alloc _⟩
set_option maxRecDepth 100000 in
set_option maxHeartbeats 4000000 in
theorem rwrd_no (k x y b c t : Int) (w : World) (n1 : (k == 1) = false) (n24 : (k == 24) = false) (n9 : (k == 9) = false) (n10 : (k == 10) = false) (n11 : (k == 11) = false) (n12 : (k == 12) = false) (n13 : (k == 13) = false) (n14 : (k == 14) = false) (n15 : (k == 15) = false) (n16 : (k == 16) = false) (n17 : (k == 17) = false) (n18 : (k == 18) = false) (n19 : (k == 19) = false) (n27 : (k == 27) = false) (n28 : (k == 28) = false) (n29 : (k == 29) = false) (n20 : (k == 20) = false) (n30 : (k == 30) = false) (n21 : (k == 21) = false) (n22 : (k == 22) = false) (n36 : (k == 36) = false) (n37 : (k == 37) = false) (n39 : (k == 39) = false) (n41 : (k == 41) = false) (n42 : (k == 42) = false) (n8 : (k == 8) = false) (n23 : (k == 23) = false) (n44 : (k == 44) = false) (n25 : (k == 25) = false) (n26 : (k == 26) = false) (n43 : (k == 43) = false) (n45 : (k == 45) = false) (n46 : (k == 46) = false) (n7 : (k == 7) = false) (n40 : (k == 40) = false) : Calls Tryd.prog 24 #[.agg #[.int .i64 k, .int .i64 x, .int .i64 y, .int .i64 b, .int .i64 c, .int .i64 t]] w fun e w' => e = .returned (.string ⟨#[]⟩) ∧ Kept w w' := by
  go_enter Tryd.func24, Tryd.ntmps24
  go_wp2
  go_ret
  exact ⟨rfl, (Kept.refl w).alloc _⟩
theorem rwrd21 (k x y b c t : Int) (w : World) : Calls Tryd.prog 24 #[.agg #[.int .i64 k, .int .i64 x, .int .i64 y, .int .i64 b, .int .i64 c, .int .i64 t]] w fun e w' => e = .returned (.string (wordsS k x y)) ∧ Kept w w' := by
  by_cases q1 : k = 1
  · subst q1; exact rwrd_1 x y b c t w
  by_cases q24 : k = 24
  · subst q24; exact rwrd_24 x y b c t w
  by_cases q9 : k = 9
  · subst q9; exact rwrd_9 x y b c t w
  by_cases q10 : k = 10
  · subst q10; exact rwrd_10 x y b c t w
  by_cases q11 : k = 11
  · subst q11; exact rwrd_11 x y b c t w
  by_cases q12 : k = 12
  · subst q12; exact rwrd_12 x y b c t w
  by_cases q13 : k = 13
  · subst q13; exact rwrd_13 x y b c t w
  by_cases q14 : k = 14
  · subst q14; exact rwrd_14 x y b c t w
  by_cases q15 : k = 15
  · subst q15; exact rwrd_15 x y b c t w
  by_cases q16 : k = 16
  · subst q16; exact rwrd_16 x y b c t w
  by_cases q17 : k = 17
  · subst q17; exact rwrd_17 x y b c t w
  by_cases q18 : k = 18
  · subst q18; exact rwrd_18 x y b c t w
  by_cases q19 : k = 19
  · subst q19; exact rwrd_19 x y b c t w
  by_cases q27 : k = 27
  · subst q27; exact rwrd_27 x y b c t w
  by_cases q28 : k = 28
  · subst q28; exact rwrd_28 x y b c t w
  by_cases q29 : k = 29
  · subst q29; exact rwrd_29 x y b c t w
  by_cases q20 : k = 20
  · subst q20; exact rwrd_20 x y b c t w
  by_cases q30 : k = 30
  · subst q30; exact rwrd_30 x y b c t w
  by_cases q21 : k = 21
  · subst q21; exact rwrd_21 x y b c t w
  by_cases q22 : k = 22
  · subst q22; exact rwrd_22 x y b c t w
  by_cases q36 : k = 36
  · subst q36; exact rwrd_36 x y b c t w
  by_cases q37 : k = 37
  · subst q37; exact rwrd_37 x y b c t w
  by_cases q39 : k = 39
  · subst q39; exact rwrd_39 x y b c t w
  by_cases q41 : k = 41
  · subst q41; exact rwrd_41 x y b c t w
  by_cases q42 : k = 42
  · subst q42; exact rwrd_42 x y b c t w
  by_cases q8 : k = 8
  · subst q8; exact rwrd_8 x y b c t w
  by_cases q23 : k = 23
  · subst q23; exact rwrd_23 x y b c t w
  by_cases q44 : k = 44
  · subst q44; exact rwrd_44 x y b c t w
  by_cases q25 : k = 25
  · subst q25; exact rwrd_25 x y b c t w
  by_cases q26 : k = 26
  · subst q26; exact rwrd_26 x y b c t w
  by_cases q43 : k = 43
  · subst q43; exact rwrd_43 x y b c t w
  by_cases q45 : k = 45
  · subst q45; exact rwrd_45 x y b c t w
  by_cases q46 : k = 46
  · subst q46; exact rwrd_46 x y b c t w
  by_cases q7 : k = 7
  · subst q7; exact rwrd_7 x y b c t w
  by_cases q40 : k = 40
  · subst q40; exact rwrd_40 x y b c t w
  rw [show wordsS k x y = ⟨#[]⟩ by simp [wordsS, q1, q24, q9, q10, q11, q12, q13, q14, q15, q16, q17, q18, q19, q27, q28, q29, q20, q30, q21, q22, q36, q37, q39, q41, q42, q8, q23, q44, q25, q26, q43, q45, q46, q7, q40]]
  exact rwrd_no k x y b c t w (by simp [q1]) (by simp [q24]) (by simp [q9]) (by simp [q10]) (by simp [q11]) (by simp [q12]) (by simp [q13]) (by simp [q14]) (by simp [q15]) (by simp [q16]) (by simp [q17]) (by simp [q18]) (by simp [q19]) (by simp [q27]) (by simp [q28]) (by simp [q29]) (by simp [q20]) (by simp [q30]) (by simp [q21]) (by simp [q22]) (by simp [q36]) (by simp [q37]) (by simp [q39]) (by simp [q41]) (by simp [q42]) (by simp [q8]) (by simp [q23]) (by simp [q44]) (by simp [q25]) (by simp [q26]) (by simp [q43]) (by simp [q45]) (by simp [q46]) (by simp [q7]) (by simp [q40])
end Go.Proofs.YtbflhpffojlpgaaDoor
