/- What Rows and told of the document's answers of layer 5 come to. -/
import Derived.Test.YtbflhpffojlpgaaDoorRf1
import Derived.Test.YtbflhpffojlpgaaDoorOp2
namespace Go.Proofs.YtbflhpffojlpgaaDoor
open Go.RowKit
set_option linter.unusedVariables false
set_option linter.unusedSimpArgs false

def rowsC : Array Value := #[.string ⟨#[48, 48, 48, 48, 48, 48, 48, 48]⟩, .int .i64 0, .int .i64 1, .int .i64 1, .int .i64 1, .int .i64 0, .string ⟨#[48, 48, 48, 48, 49, 48, 48, 48]⟩, .int .i64 18, .int .i64 3, .int .i64 5, .int .i64 5, .int .i64 0, .string ⟨#[48, 48, 48, 49, 48, 48, 48, 48]⟩, .int .i64 1, .int .i64 2, .int .i64 2, .int .i64 2, .int .i64 0, .string ⟨#[48, 48, 48, 49, 49, 48, 48, 48]⟩, .int .i64 36, .int .i64 2, .int .i64 3, .int .i64 3, .int .i64 4, .string ⟨#[48, 48, 49, 120, 120, 48, 48, 48]⟩, .int .i64 36, .int .i64 2, .int .i64 2, .int .i64 3, .int .i64 0, .string ⟨#[48, 48, 120, 120, 48, 48, 48, 49]⟩, .int .i64 17, .int .i64 3, .int .i64 3, .int .i64 3, .int .i64 0, .string ⟨#[48, 48, 120, 120, 49, 48, 48, 49]⟩, .int .i64 29, .int .i64 1, .int .i64 2, .int .i64 2, .int .i64 0, .string ⟨#[48, 48, 120, 120, 48, 48, 49, 48]⟩, .int .i64 10, .int .i64 1, .int .i64 2, .int .i64 2, .int .i64 0, .string ⟨#[48, 48, 120, 120, 49, 48, 49, 48]⟩, .int .i64 9, .int .i64 1, .int .i64 2, .int .i64 2, .int .i64 0, .string ⟨#[48, 48, 120, 120, 48, 48, 49, 49]⟩, .int .i64 27, .int .i64 1, .int .i64 2, .int .i64 2, .int .i64 0, .string ⟨#[48, 48, 120, 120, 49, 48, 49, 49]⟩, .int .i64 28, .int .i64 1, .int .i64 2, .int .i64 2, .int .i64 0, .string ⟨#[48, 48, 120, 120, 120, 49, 48, 48]⟩, .int .i64 25, .int .i64 1, .int .i64 1, .int .i64 1, .int .i64 0, .string ⟨#[48, 48, 120, 120, 120, 49, 48, 49]⟩, .int .i64 26, .int .i64 1, .int .i64 1, .int .i64 1, .int .i64 0, .string ⟨#[48, 48, 120, 120, 120, 49, 49, 48]⟩, .int .i64 8, .int .i64 2, .int .i64 2, .int .i64 2, .int .i64 0, .string ⟨#[48, 48, 48, 120, 120, 49, 49, 49]⟩, .int .i64 31, .int .i64 1, .int .i64 1, .int .i64 1, .int .i64 0, .string ⟨#[48, 48, 49, 48, 48, 49, 49, 49]⟩, .int .i64 32, .int .i64 1, .int .i64 1, .int .i64 1, .int .i64 0, .string ⟨#[48, 48, 49, 48, 49, 49, 49, 49]⟩, .int .i64 33, .int .i64 1, .int .i64 1, .int .i64 1, .int .i64 0, .string ⟨#[48, 48, 49, 49, 48, 49, 49, 49]⟩, .int .i64 34, .int .i64 1, .int .i64 1, .int .i64 1, .int .i64 0, .string ⟨#[48, 48, 49, 49, 49, 49, 49, 49]⟩, .int .i64 35, .int .i64 1, .int .i64 1, .int .i64 1, .int .i64 0, .string ⟨#[48, 49, 49, 49, 48, 49, 49, 48]⟩, .int .i64 2, .int .i64 1, .int .i64 1, .int .i64 1, .int .i64 0, .string ⟨#[48, 49, 120, 120, 120, 121, 121, 121]⟩, .int .i64 7, .int .i64 1, .int .i64 1, .int .i64 1, .int .i64 0, .string ⟨#[49, 48, 120, 120, 120, 121, 121, 121]⟩, .int .i64 23, .int .i64 1, .int .i64 1, .int .i64 1, .int .i64 0, .string ⟨#[49, 49, 48, 120, 120, 48, 48, 48]⟩, .int .i64 40, .int .i64 1, .int .i64 2, .int .i64 5, .int .i64 0, .string ⟨#[49, 49, 49, 48, 48, 48, 48, 48]⟩, .int .i64 12, .int .i64 2, .int .i64 3, .int .i64 3, .int .i64 0, .string ⟨#[49, 49, 49, 48, 49, 48, 48, 48]⟩, .int .i64 30, .int .i64 2, .int .i64 4, .int .i64 4, .int .i64 0, .string ⟨#[49, 49, 49, 49, 48, 48, 48, 48]⟩, .int .i64 11, .int .i64 2, .int .i64 3, .int .i64 3, .int .i64 0, .string ⟨#[49, 49, 49, 49, 49, 48, 48, 48]⟩, .int .i64 20, .int .i64 2, .int .i64 3, .int .i64 3, .int .i64 0, .string ⟨#[49, 49, 120, 120, 48, 48, 48, 49]⟩, .int .i64 22, .int .i64 1, .int .i64 3, .int .i64 3, .int .i64 0, .string ⟨#[49, 49, 48, 48, 49, 48, 48, 49]⟩, .int .i64 40, .int .i64 1, .int .i64 4, .int .i64 4, .int .i64 4, .string ⟨#[49, 49, 48, 49, 49, 48, 48, 49]⟩, .int .i64 41, .int .i64 1, .int .i64 4, .int .i64 4, .int .i64 0, .string ⟨#[49, 49, 49, 48, 49, 48, 48, 49]⟩, .int .i64 38, .int .i64 1, .int .i64 1, .int .i64 1, .int .i64 0, .string ⟨#[49, 49, 49, 49, 49, 48, 48, 49]⟩, .int .i64 19, .int .i64 1, .int .i64 2, .int .i64 2, .int .i64 0, .string ⟨#[49, 49, 48, 120, 120, 48, 49, 48]⟩, .int .i64 37, .int .i64 3, .int .i64 3, .int .i64 4, .int .i64 0, .string ⟨#[49, 49, 49, 48, 48, 48, 49, 48]⟩, .int .i64 14, .int .i64 1, .int .i64 2, .int .i64 2, .int .i64 0, .string ⟨#[49, 49, 49, 48, 49, 48, 49, 48]⟩, .int .i64 16, .int .i64 3, .int .i64 4, .int .i64 4, .int .i64 0, .string ⟨#[49, 49, 49, 49, 48, 48, 49, 48]⟩, .int .i64 13, .int .i64 1, .int .i64 2, .int .i64 2, .int .i64 0, .string ⟨#[49, 49, 49, 49, 49, 48, 49, 48]⟩, .int .i64 15, .int .i64 3, .int .i64 4, .int .i64 4, .int .i64 0, .string ⟨#[49, 49, 48, 48, 48, 48, 49, 49]⟩, .int .i64 37, .int .i64 3, .int .i64 4, .int .i64 4, .int .i64 4, .string ⟨#[49, 49, 48, 48, 49, 48, 49, 49]⟩, .int .i64 6, .int .i64 1, .int .i64 1, .int .i64 1, .int .i64 0, .string ⟨#[49, 49, 49, 49, 48, 48, 49, 49]⟩, .int .i64 3, .int .i64 1, .int .i64 1, .int .i64 1, .int .i64 0, .string ⟨#[49, 49, 49, 49, 49, 48, 49, 49]⟩, .int .i64 4, .int .i64 1, .int .i64 1, .int .i64 1, .int .i64 0, .string ⟨#[49, 49, 48, 120, 120, 49, 48, 48]⟩, .int .i64 39, .int .i64 3, .int .i64 3, .int .i64 6, .int .i64 0, .string ⟨#[49, 49, 120, 120, 48, 49, 48, 49]⟩, .int .i64 21, .int .i64 1, .int .i64 4, .int .i64 4, .int .i64 0, .string ⟨#[49, 49, 48, 48, 49, 49, 48, 49]⟩, .int .i64 39, .int .i64 3, .int .i64 6, .int .i64 6, .int .i64 4, .string ⟨#[49, 49, 120, 120, 120, 49, 49, 48]⟩, .int .i64 24, .int .i64 2, .int .i64 2, .int .i64 2, .int .i64 0, .string ⟨#[49, 49, 120, 120, 120, 49, 49, 49]⟩, .int .i64 42, .int .i64 1, .int .i64 4, .int .i64 4, .int .i64 0]
set_option maxRecDepth 100000 in
theorem rows_at (k : Nat) (h : k < 46) : rowsC[k * 6]? = some (.string (ds k)) ∧ rowsC[k * 6 + 1]? = some (.int .i64 (dk k 0)) ∧ rowsC[k * 6 + 2]? = some (.int .i64 (dk k 1)) ∧ rowsC[k * 6 + 3]? = some (.int .i64 (dk k 2)) ∧ rowsC[k * 6 + 4]? = some (.int .i64 (dk k 3)) ∧ rowsC[k * 6 + 5]? = some (.int .i64 (dk k 4)) := by
  have c : k = 0 ∨ k = 1 ∨ k = 2 ∨ k = 3 ∨ k = 4 ∨ k = 5 ∨ k = 6 ∨ k = 7 ∨ k = 8 ∨ k = 9 ∨ k = 10 ∨ k = 11 ∨ k = 12 ∨ k = 13 ∨ k = 14 ∨ k = 15 ∨ k = 16 ∨ k = 17 ∨ k = 18 ∨ k = 19 ∨ k = 20 ∨ k = 21 ∨ k = 22 ∨ k = 23 ∨ k = 24 ∨ k = 25 ∨ k = 26 ∨ k = 27 ∨ k = 28 ∨ k = 29 ∨ k = 30 ∨ k = 31 ∨ k = 32 ∨ k = 33 ∨ k = 34 ∨ k = 35 ∨ k = 36 ∨ k = 37 ∨ k = 38 ∨ k = 39 ∨ k = 40 ∨ k = 41 ∨ k = 42 ∨ k = 43 ∨ k = 44 ∨ k = 45 := by omega
  rcases c with rfl | rfl | rfl | rfl | rfl | rfl | rfl | rfl | rfl | rfl | rfl | rfl | rfl | rfl | rfl | rfl | rfl | rfl | rfl | rfl | rfl | rfl | rfl | rfl | rfl | rfl | rfl | rfl | rfl | rfl | rfl | rfl | rfl | rfl | rfl | rfl | rfl | rfl | rfl | rfl | rfl | rfl | rfl | rfl | rfl | rfl <;> exact ⟨by kernel_rfl, by kernel_rfl, by kernel_rfl, by kernel_rfl, by kernel_rfl, by kernel_rfl⟩
set_option maxRecDepth 100000 in
set_option maxHeartbeats 4000000 in
theorem rows_any (w : World) : Calls Tryd.prog 48 #[] w fun e w' => e = .returned (.slice (some ⟨w.heap.size, 0, none⟩) 46 46) ∧ Has w' w.heap.size rowsC ∧ Grown w w' := by
  go_enter Tryd.func48, Tryd.ntmps48
  go_upto_region 1 with fail
  apply wp_region_lit
  refine wpList_all ⟨#[.slice (some ⟨w.heap.size, 0, none⟩) 46 46, .agg #[.string ⟨#[48, 48, 48, 48, 48, 48, 48, 48]⟩, .int .i64 0, .int .i64 1, .int .i64 1, .int .i64 1, .int .i64 0], .agg #[.string ⟨#[48, 48, 48, 48, 49, 48, 48, 48]⟩, .int .i64 18, .int .i64 3, .int .i64 5, .int .i64 5, .int .i64 0], .agg #[.string ⟨#[48, 48, 48, 49, 48, 48, 48, 48]⟩, .int .i64 1, .int .i64 2, .int .i64 2, .int .i64 2, .int .i64 0], .agg #[.string ⟨#[48, 48, 48, 49, 49, 48, 48, 48]⟩, .int .i64 36, .int .i64 2, .int .i64 3, .int .i64 3, .int .i64 4], .agg #[.string ⟨#[48, 48, 49, 120, 120, 48, 48, 48]⟩, .int .i64 36, .int .i64 2, .int .i64 2, .int .i64 3, .int .i64 0], .agg #[.string ⟨#[48, 48, 120, 120, 48, 48, 48, 49]⟩, .int .i64 17, .int .i64 3, .int .i64 3, .int .i64 3, .int .i64 0], .agg #[.string ⟨#[48, 48, 120, 120, 49, 48, 48, 49]⟩, .int .i64 29, .int .i64 1, .int .i64 2, .int .i64 2, .int .i64 0], .agg #[.string ⟨#[48, 48, 120, 120, 48, 48, 49, 48]⟩, .int .i64 10, .int .i64 1, .int .i64 2, .int .i64 2, .int .i64 0], .agg #[.string ⟨#[48, 48, 120, 120, 49, 48, 49, 48]⟩, .int .i64 9, .int .i64 1, .int .i64 2, .int .i64 2, .int .i64 0], .agg #[.string ⟨#[48, 48, 120, 120, 48, 48, 49, 49]⟩, .int .i64 27, .int .i64 1, .int .i64 2, .int .i64 2, .int .i64 0], .agg #[.string ⟨#[48, 48, 120, 120, 49, 48, 49, 49]⟩, .int .i64 28, .int .i64 1, .int .i64 2, .int .i64 2, .int .i64 0], .agg #[.string ⟨#[48, 48, 120, 120, 120, 49, 48, 48]⟩, .int .i64 25, .int .i64 1, .int .i64 1, .int .i64 1, .int .i64 0], .agg #[.string ⟨#[48, 48, 120, 120, 120, 49, 48, 49]⟩, .int .i64 26, .int .i64 1, .int .i64 1, .int .i64 1, .int .i64 0], .agg #[.string ⟨#[48, 48, 120, 120, 120, 49, 49, 48]⟩, .int .i64 8, .int .i64 2, .int .i64 2, .int .i64 2, .int .i64 0], .agg #[.string ⟨#[48, 48, 48, 120, 120, 49, 49, 49]⟩, .int .i64 31, .int .i64 1, .int .i64 1, .int .i64 1, .int .i64 0], .agg #[.string ⟨#[48, 48, 49, 48, 48, 49, 49, 49]⟩, .int .i64 32, .int .i64 1, .int .i64 1, .int .i64 1, .int .i64 0], .agg #[.string ⟨#[48, 48, 49, 48, 49, 49, 49, 49]⟩, .int .i64 33, .int .i64 1, .int .i64 1, .int .i64 1, .int .i64 0], .agg #[.string ⟨#[48, 48, 49, 49, 48, 49, 49, 49]⟩, .int .i64 34, .int .i64 1, .int .i64 1, .int .i64 1, .int .i64 0], .agg #[.string ⟨#[48, 48, 49, 49, 49, 49, 49, 49]⟩, .int .i64 35, .int .i64 1, .int .i64 1, .int .i64 1, .int .i64 0], .agg #[.string ⟨#[48, 49, 49, 49, 48, 49, 49, 48]⟩, .int .i64 2, .int .i64 1, .int .i64 1, .int .i64 1, .int .i64 0], .agg #[.string ⟨#[48, 49, 120, 120, 120, 121, 121, 121]⟩, .int .i64 7, .int .i64 1, .int .i64 1, .int .i64 1, .int .i64 0], .agg #[.string ⟨#[49, 48, 120, 120, 120, 121, 121, 121]⟩, .int .i64 23, .int .i64 1, .int .i64 1, .int .i64 1, .int .i64 0], .agg #[.string ⟨#[49, 49, 48, 120, 120, 48, 48, 48]⟩, .int .i64 40, .int .i64 1, .int .i64 2, .int .i64 5, .int .i64 0], .agg #[.string ⟨#[49, 49, 49, 48, 48, 48, 48, 48]⟩, .int .i64 12, .int .i64 2, .int .i64 3, .int .i64 3, .int .i64 0], .agg #[.string ⟨#[49, 49, 49, 48, 49, 48, 48, 48]⟩, .int .i64 30, .int .i64 2, .int .i64 4, .int .i64 4, .int .i64 0], .agg #[.string ⟨#[49, 49, 49, 49, 48, 48, 48, 48]⟩, .int .i64 11, .int .i64 2, .int .i64 3, .int .i64 3, .int .i64 0], .agg #[.string ⟨#[49, 49, 49, 49, 49, 48, 48, 48]⟩, .int .i64 20, .int .i64 2, .int .i64 3, .int .i64 3, .int .i64 0], .agg #[.string ⟨#[49, 49, 120, 120, 48, 48, 48, 49]⟩, .int .i64 22, .int .i64 1, .int .i64 3, .int .i64 3, .int .i64 0], .agg #[.string ⟨#[49, 49, 48, 48, 49, 48, 48, 49]⟩, .int .i64 40, .int .i64 1, .int .i64 4, .int .i64 4, .int .i64 4], .agg #[.string ⟨#[49, 49, 48, 49, 49, 48, 48, 49]⟩, .int .i64 41, .int .i64 1, .int .i64 4, .int .i64 4, .int .i64 0], .agg #[.string ⟨#[49, 49, 49, 48, 49, 48, 48, 49]⟩, .int .i64 38, .int .i64 1, .int .i64 1, .int .i64 1, .int .i64 0], .agg #[.string ⟨#[49, 49, 49, 49, 49, 48, 48, 49]⟩, .int .i64 19, .int .i64 1, .int .i64 2, .int .i64 2, .int .i64 0], .agg #[.string ⟨#[49, 49, 48, 120, 120, 48, 49, 48]⟩, .int .i64 37, .int .i64 3, .int .i64 3, .int .i64 4, .int .i64 0], .agg #[.string ⟨#[49, 49, 49, 48, 48, 48, 49, 48]⟩, .int .i64 14, .int .i64 1, .int .i64 2, .int .i64 2, .int .i64 0], .agg #[.string ⟨#[49, 49, 49, 48, 49, 48, 49, 48]⟩, .int .i64 16, .int .i64 3, .int .i64 4, .int .i64 4, .int .i64 0], .agg #[.string ⟨#[49, 49, 49, 49, 48, 48, 49, 48]⟩, .int .i64 13, .int .i64 1, .int .i64 2, .int .i64 2, .int .i64 0], .agg #[.string ⟨#[49, 49, 49, 49, 49, 48, 49, 48]⟩, .int .i64 15, .int .i64 3, .int .i64 4, .int .i64 4, .int .i64 0], .agg #[.string ⟨#[49, 49, 48, 48, 48, 48, 49, 49]⟩, .int .i64 37, .int .i64 3, .int .i64 4, .int .i64 4, .int .i64 4], .agg #[.string ⟨#[49, 49, 48, 48, 49, 48, 49, 49]⟩, .int .i64 6, .int .i64 1, .int .i64 1, .int .i64 1, .int .i64 0], .agg #[.string ⟨#[49, 49, 49, 49, 48, 48, 49, 49]⟩, .int .i64 3, .int .i64 1, .int .i64 1, .int .i64 1, .int .i64 0], .agg #[.string ⟨#[49, 49, 49, 49, 49, 48, 49, 49]⟩, .int .i64 4, .int .i64 1, .int .i64 1, .int .i64 1, .int .i64 0], .agg #[.string ⟨#[49, 49, 48, 120, 120, 49, 48, 48]⟩, .int .i64 39, .int .i64 3, .int .i64 3, .int .i64 6, .int .i64 0], .agg #[.string ⟨#[49, 49, 120, 120, 48, 49, 48, 49]⟩, .int .i64 21, .int .i64 1, .int .i64 4, .int .i64 4, .int .i64 0], .agg #[.string ⟨#[49, 49, 48, 48, 49, 49, 48, 49]⟩, .int .i64 39, .int .i64 3, .int .i64 6, .int .i64 6, .int .i64 4], .agg #[.string ⟨#[49, 49, 120, 120, 120, 49, 49, 48]⟩, .int .i64 24, .int .i64 2, .int .i64 2, .int .i64 2, .int .i64 0], .agg #[.string ⟨#[49, 49, 120, 120, 120, 49, 49, 49]⟩, .int .i64 42, .int .i64 1, .int .i64 4, .int .i64 4, .int .i64 0], .slice (some ⟨w.heap.size, 0, none⟩) 46 46], []⟩ (w.alloc (.cells rowsC 62)) _ _ _ (by kernel_rfl) ?_
  go_wp2
  exact bodyPost_ret (v := .slice (some ⟨w.heap.size, 0, none⟩) 46 46) (by simp [results, Tryd.results48, go_sem]) rfl ⟨rfl, has_alloc _ _ _, alloc1 _ _ _⟩
def toldOf (kd b c t al x y : Int) : Fm :=
  ⟨kd, if (kd == 21 || kd == 22) && x == 3 then 4 else if al != 0 then al else x, y, b,
   if (kd == 7 && (x == 6 || y == 6)) || (kd == 23 && y == 6) then 2 else if (kd == 25 || kd == 26 || kd == 8) && x == 6 then 3 else c,
   if (kd == 7 && (x == 6 || y == 6)) || (kd == 23 && y == 6) then 2 else if (kd == 25 || kd == 26 || kd == 8) && x == 6 then 3 else t⟩
theorem told21 (s : ByteArray) (b c t x y : Int) (w : World) :
    Calls Tryd.prog 49 #[.agg #[.string s, .int .i64 21, .int .i64 b, .int .i64 c, .int .i64 t, .int .i64 0], .int .i64 x, .int .i64 y] w fun e w' => e = .returned (.agg #[.int .i64 (toldOf 21 b c t 0 x y).kind, .int .i64 (toldOf 21 b c t 0 x y).x, .int .i64 (toldOf 21 b c t 0 x y).y, .int .i64 (toldOf 21 b c t 0 x y).bytes, .int .i64 (toldOf 21 b c t 0 x y).cycles, .int .i64 (toldOf 21 b c t 0 x y).taken]) ∧ Grown w w' := by
  cases bx : (x == 3)
  · skip
    have E := hid (show toldOf 21 b c t 0 x y = ⟨21, x, y, b, c, t⟩ by simp [toldOf, bx])
    go_enter Tryd.func49, Tryd.ntmps49
    go_wp2
    exact bodyPost_ret (v := .agg #[.int .i64 21, .int .i64 x, .int .i64 y, .int .i64 b, .int .i64 c, .int .i64 t]) (by simp [results, Tryd.results49, go_sem]) rfl ⟨by rw [E.out], ((alloc1 w _ _).alloc _ _).alloc _ _⟩
  · skip
    have E := hid (show toldOf 21 b c t 0 x y = ⟨21, 4, y, b, c, t⟩ by simp [toldOf, bx])
    go_enter Tryd.func49, Tryd.ntmps49
    go_wp2
    exact bodyPost_ret (v := .agg #[.int .i64 21, .int .i64 4, .int .i64 y, .int .i64 b, .int .i64 c, .int .i64 t]) (by simp [results, Tryd.results49, go_sem]) rfl ⟨by rw [E.out], ((alloc1 w _ _).alloc _ _).alloc _ _⟩
theorem told22 (s : ByteArray) (b c t x y : Int) (w : World) :
    Calls Tryd.prog 49 #[.agg #[.string s, .int .i64 22, .int .i64 b, .int .i64 c, .int .i64 t, .int .i64 0], .int .i64 x, .int .i64 y] w fun e w' => e = .returned (.agg #[.int .i64 (toldOf 22 b c t 0 x y).kind, .int .i64 (toldOf 22 b c t 0 x y).x, .int .i64 (toldOf 22 b c t 0 x y).y, .int .i64 (toldOf 22 b c t 0 x y).bytes, .int .i64 (toldOf 22 b c t 0 x y).cycles, .int .i64 (toldOf 22 b c t 0 x y).taken]) ∧ Grown w w' := by
  cases bx : (x == 3)
  · skip
    have E := hid (show toldOf 22 b c t 0 x y = ⟨22, x, y, b, c, t⟩ by simp [toldOf, bx])
    go_enter Tryd.func49, Tryd.ntmps49
    go_wp2
    exact bodyPost_ret (v := .agg #[.int .i64 22, .int .i64 x, .int .i64 y, .int .i64 b, .int .i64 c, .int .i64 t]) (by simp [results, Tryd.results49, go_sem]) rfl ⟨by rw [E.out], ((alloc1 w _ _).alloc _ _).alloc _ _⟩
  · skip
    have E := hid (show toldOf 22 b c t 0 x y = ⟨22, 4, y, b, c, t⟩ by simp [toldOf, bx])
    go_enter Tryd.func49, Tryd.ntmps49
    go_wp2
    exact bodyPost_ret (v := .agg #[.int .i64 22, .int .i64 4, .int .i64 y, .int .i64 b, .int .i64 c, .int .i64 t]) (by simp [results, Tryd.results49, go_sem]) rfl ⟨by rw [E.out], ((alloc1 w _ _).alloc _ _).alloc _ _⟩
theorem told25 (s : ByteArray) (b c t x y : Int) (w : World) :
    Calls Tryd.prog 49 #[.agg #[.string s, .int .i64 25, .int .i64 b, .int .i64 c, .int .i64 t, .int .i64 0], .int .i64 x, .int .i64 y] w fun e w' => e = .returned (.agg #[.int .i64 (toldOf 25 b c t 0 x y).kind, .int .i64 (toldOf 25 b c t 0 x y).x, .int .i64 (toldOf 25 b c t 0 x y).y, .int .i64 (toldOf 25 b c t 0 x y).bytes, .int .i64 (toldOf 25 b c t 0 x y).cycles, .int .i64 (toldOf 25 b c t 0 x y).taken]) ∧ Grown w w' := by
  cases bx : (x == 6)
  · skip
    have E := hid (show toldOf 25 b c t 0 x y = ⟨25, x, y, b, c, t⟩ by simp [toldOf, bx])
    go_enter Tryd.func49, Tryd.ntmps49
    go_wp2
    exact bodyPost_ret (v := .agg #[.int .i64 25, .int .i64 x, .int .i64 y, .int .i64 b, .int .i64 c, .int .i64 t]) (by simp [results, Tryd.results49, go_sem]) rfl ⟨by rw [E.out], ((alloc1 w _ _).alloc _ _).alloc _ _⟩
  · skip
    have E := hid (show toldOf 25 b c t 0 x y = ⟨25, x, y, b, 3, 3⟩ by simp [toldOf, bx])
    go_enter Tryd.func49, Tryd.ntmps49
    go_wp2
    exact bodyPost_ret (v := .agg #[.int .i64 25, .int .i64 x, .int .i64 y, .int .i64 b, .int .i64 3, .int .i64 3]) (by simp [results, Tryd.results49, go_sem]) rfl ⟨by rw [E.out], ((alloc1 w _ _).alloc _ _).alloc _ _⟩
theorem told26 (s : ByteArray) (b c t x y : Int) (w : World) :
    Calls Tryd.prog 49 #[.agg #[.string s, .int .i64 26, .int .i64 b, .int .i64 c, .int .i64 t, .int .i64 0], .int .i64 x, .int .i64 y] w fun e w' => e = .returned (.agg #[.int .i64 (toldOf 26 b c t 0 x y).kind, .int .i64 (toldOf 26 b c t 0 x y).x, .int .i64 (toldOf 26 b c t 0 x y).y, .int .i64 (toldOf 26 b c t 0 x y).bytes, .int .i64 (toldOf 26 b c t 0 x y).cycles, .int .i64 (toldOf 26 b c t 0 x y).taken]) ∧ Grown w w' := by
  cases bx : (x == 6)
  · skip
    have E := hid (show toldOf 26 b c t 0 x y = ⟨26, x, y, b, c, t⟩ by simp [toldOf, bx])
    go_enter Tryd.func49, Tryd.ntmps49
    go_wp2
    exact bodyPost_ret (v := .agg #[.int .i64 26, .int .i64 x, .int .i64 y, .int .i64 b, .int .i64 c, .int .i64 t]) (by simp [results, Tryd.results49, go_sem]) rfl ⟨by rw [E.out], ((alloc1 w _ _).alloc _ _).alloc _ _⟩
  · skip
    have E := hid (show toldOf 26 b c t 0 x y = ⟨26, x, y, b, 3, 3⟩ by simp [toldOf, bx])
    go_enter Tryd.func49, Tryd.ntmps49
    go_wp2
    exact bodyPost_ret (v := .agg #[.int .i64 26, .int .i64 x, .int .i64 y, .int .i64 b, .int .i64 3, .int .i64 3]) (by simp [results, Tryd.results49, go_sem]) rfl ⟨by rw [E.out], ((alloc1 w _ _).alloc _ _).alloc _ _⟩
theorem told8 (s : ByteArray) (b c t x y : Int) (w : World) :
    Calls Tryd.prog 49 #[.agg #[.string s, .int .i64 8, .int .i64 b, .int .i64 c, .int .i64 t, .int .i64 0], .int .i64 x, .int .i64 y] w fun e w' => e = .returned (.agg #[.int .i64 (toldOf 8 b c t 0 x y).kind, .int .i64 (toldOf 8 b c t 0 x y).x, .int .i64 (toldOf 8 b c t 0 x y).y, .int .i64 (toldOf 8 b c t 0 x y).bytes, .int .i64 (toldOf 8 b c t 0 x y).cycles, .int .i64 (toldOf 8 b c t 0 x y).taken]) ∧ Grown w w' := by
  cases bx : (x == 6)
  · skip
    have E := hid (show toldOf 8 b c t 0 x y = ⟨8, x, y, b, c, t⟩ by simp [toldOf, bx])
    go_enter Tryd.func49, Tryd.ntmps49
    go_wp2
    exact bodyPost_ret (v := .agg #[.int .i64 8, .int .i64 x, .int .i64 y, .int .i64 b, .int .i64 c, .int .i64 t]) (by simp [results, Tryd.results49, go_sem]) rfl ⟨by rw [E.out], ((alloc1 w _ _).alloc _ _).alloc _ _⟩
  · skip
    have E := hid (show toldOf 8 b c t 0 x y = ⟨8, x, y, b, 3, 3⟩ by simp [toldOf, bx])
    go_enter Tryd.func49, Tryd.ntmps49
    go_wp2
    exact bodyPost_ret (v := .agg #[.int .i64 8, .int .i64 x, .int .i64 y, .int .i64 b, .int .i64 3, .int .i64 3]) (by simp [results, Tryd.results49, go_sem]) rfl ⟨by rw [E.out], ((alloc1 w _ _).alloc _ _).alloc _ _⟩
theorem told23 (s : ByteArray) (b c t x y : Int) (w : World) :
    Calls Tryd.prog 49 #[.agg #[.string s, .int .i64 23, .int .i64 b, .int .i64 c, .int .i64 t, .int .i64 0], .int .i64 x, .int .i64 y] w fun e w' => e = .returned (.agg #[.int .i64 (toldOf 23 b c t 0 x y).kind, .int .i64 (toldOf 23 b c t 0 x y).x, .int .i64 (toldOf 23 b c t 0 x y).y, .int .i64 (toldOf 23 b c t 0 x y).bytes, .int .i64 (toldOf 23 b c t 0 x y).cycles, .int .i64 (toldOf 23 b c t 0 x y).taken]) ∧ Grown w w' := by
  cases bY : (y == 6)
  · skip
    have E := hid (show toldOf 23 b c t 0 x y = ⟨23, x, y, b, c, t⟩ by simp [toldOf, bY])
    go_enter Tryd.func49, Tryd.ntmps49
    go_wp2
    exact bodyPost_ret (v := .agg #[.int .i64 23, .int .i64 x, .int .i64 y, .int .i64 b, .int .i64 c, .int .i64 t]) (by simp [results, Tryd.results49, go_sem]) rfl ⟨by rw [E.out], ((alloc1 w _ _).alloc _ _).alloc _ _⟩
  · skip
    have E := hid (show toldOf 23 b c t 0 x y = ⟨23, x, y, b, 2, 2⟩ by simp [toldOf, bY])
    go_enter Tryd.func49, Tryd.ntmps49
    go_wp2
    exact bodyPost_ret (v := .agg #[.int .i64 23, .int .i64 x, .int .i64 y, .int .i64 b, .int .i64 2, .int .i64 2]) (by simp [results, Tryd.results49, go_sem]) rfl ⟨by rw [E.out], ((alloc1 w _ _).alloc _ _).alloc _ _⟩
theorem told7 (s : ByteArray) (b c t x y : Int) (w : World) :
    Calls Tryd.prog 49 #[.agg #[.string s, .int .i64 7, .int .i64 b, .int .i64 c, .int .i64 t, .int .i64 0], .int .i64 x, .int .i64 y] w fun e w' => e = .returned (.agg #[.int .i64 (toldOf 7 b c t 0 x y).kind, .int .i64 (toldOf 7 b c t 0 x y).x, .int .i64 (toldOf 7 b c t 0 x y).y, .int .i64 (toldOf 7 b c t 0 x y).bytes, .int .i64 (toldOf 7 b c t 0 x y).cycles, .int .i64 (toldOf 7 b c t 0 x y).taken]) ∧ Grown w w' := by
  cases bx : (x == 6)
  · skip
    cases bY : (y == 6)
    · skip
      have E := hid (show toldOf 7 b c t 0 x y = ⟨7, x, y, b, c, t⟩ by simp [toldOf, bx, bY])
      go_enter Tryd.func49, Tryd.ntmps49
      go_wp2
      exact bodyPost_ret (v := .agg #[.int .i64 7, .int .i64 x, .int .i64 y, .int .i64 b, .int .i64 c, .int .i64 t]) (by simp [results, Tryd.results49, go_sem]) rfl ⟨by rw [E.out], ((alloc1 w _ _).alloc _ _).alloc _ _⟩
    · skip
      have E := hid (show toldOf 7 b c t 0 x y = ⟨7, x, y, b, 2, 2⟩ by simp [toldOf, bx, bY])
      go_enter Tryd.func49, Tryd.ntmps49
      go_wp2
      exact bodyPost_ret (v := .agg #[.int .i64 7, .int .i64 x, .int .i64 y, .int .i64 b, .int .i64 2, .int .i64 2]) (by simp [results, Tryd.results49, go_sem]) rfl ⟨by rw [E.out], ((alloc1 w _ _).alloc _ _).alloc _ _⟩
  · skip
    have E := hid (show toldOf 7 b c t 0 x y = ⟨7, x, y, b, 2, 2⟩ by simp [toldOf, bx])
    go_enter Tryd.func49, Tryd.ntmps49
    go_wp2
    exact bodyPost_ret (v := .agg #[.int .i64 7, .int .i64 x, .int .i64 y, .int .i64 b, .int .i64 2, .int .i64 2]) (by simp [results, Tryd.results49, go_sem]) rfl ⟨by rw [E.out], ((alloc1 w _ _).alloc _ _).alloc _ _⟩
theorem told_else (s : ByteArray) (kd b c t al x y : Int) (w : World) (k21 : (kd == 21) = false) (k22 : (kd == 22) = false) (k25 : (kd == 25) = false) (k26 : (kd == 26) = false) (k8 : (kd == 8) = false) (k7 : (kd == 7) = false) (k23 : (kd == 23) = false) :
    Calls Tryd.prog 49 #[.agg #[.string s, .int .i64 kd, .int .i64 b, .int .i64 c, .int .i64 t, .int .i64 al], .int .i64 x, .int .i64 y] w fun e w' => e = .returned (.agg #[.int .i64 (toldOf kd b c t al x y).kind, .int .i64 (toldOf kd b c t al x y).x, .int .i64 (toldOf kd b c t al x y).y, .int .i64 (toldOf kd b c t al x y).bytes, .int .i64 (toldOf kd b c t al x y).cycles, .int .i64 (toldOf kd b c t al x y).taken]) ∧ Grown w w' := by
  cases ba : (al != 0)
  · skip
    have E := hid (show toldOf kd b c t al x y = ⟨kd, x, y, b, c, t⟩ by simp [toldOf, k21, k22, k25, k26, k8, k7, k23, ba])
    go_enter Tryd.func49, Tryd.ntmps49
    go_wp2
    exact bodyPost_ret (v := .agg #[.int .i64 kd, .int .i64 x, .int .i64 y, .int .i64 b, .int .i64 c, .int .i64 t]) (by simp [results, Tryd.results49, go_sem]) rfl ⟨by rw [E.out], ((alloc1 w _ _).alloc _ _).alloc _ _⟩
  · skip
    have E := hid (show toldOf kd b c t al x y = ⟨kd, al, y, b, c, t⟩ by simp [toldOf, k21, k22, k25, k26, k8, k7, k23, ba])
    go_enter Tryd.func49, Tryd.ntmps49
    go_wp2
    exact bodyPost_ret (v := .agg #[.int .i64 kd, .int .i64 al, .int .i64 y, .int .i64 b, .int .i64 c, .int .i64 t]) (by simp [results, Tryd.results49, go_sem]) rfl ⟨by rw [E.out], ((alloc1 w _ _).alloc _ _).alloc _ _⟩
theorem told_any (s : ByteArray) (kd b c t al x y : Int) (w : World) (ha : (kd = 21 ∨ kd = 22 ∨ kd = 25 ∨ kd = 26 ∨ kd = 8 ∨ kd = 7 ∨ kd = 23) → al = 0) :
    Calls Tryd.prog 49 #[.agg #[.string s, .int .i64 kd, .int .i64 b, .int .i64 c, .int .i64 t, .int .i64 al], .int .i64 x, .int .i64 y] w fun e w' => e = .returned (.agg #[.int .i64 (toldOf kd b c t al x y).kind, .int .i64 (toldOf kd b c t al x y).x, .int .i64 (toldOf kd b c t al x y).y, .int .i64 (toldOf kd b c t al x y).bytes, .int .i64 (toldOf kd b c t al x y).cycles, .int .i64 (toldOf kd b c t al x y).taken]) ∧ Grown w w' := by
  by_cases e21 : kd = 21
  · subst e21
    obtain rfl := ha (by decide)
    exact told21 s b c t x y w
  by_cases e22 : kd = 22
  · subst e22
    obtain rfl := ha (by decide)
    exact told22 s b c t x y w
  by_cases e25 : kd = 25
  · subst e25
    obtain rfl := ha (by decide)
    exact told25 s b c t x y w
  by_cases e26 : kd = 26
  · subst e26
    obtain rfl := ha (by decide)
    exact told26 s b c t x y w
  by_cases e8 : kd = 8
  · subst e8
    obtain rfl := ha (by decide)
    exact told8 s b c t x y w
  by_cases e7 : kd = 7
  · subst e7
    obtain rfl := ha (by decide)
    exact told7 s b c t x y w
  by_cases e23 : kd = 23
  · subst e23
    obtain rfl := ha (by decide)
    exact told23 s b c t x y w
  exact told_else s kd b c t al x y w (by simp [e21]) (by simp [e22]) (by simp [e25]) (by simp [e26]) (by simp [e8]) (by simp [e7]) (by simp [e23])
end Go.Proofs.YtbflhpffojlpgaaDoor
