/- What form of a row of layer 5 comes to. -/
import Derived.Test.YtbflhpffojlpgaaDoorOp1
namespace Go.Proofs.YtbflhpffojlpgaaDoor
open Go.RowKit
set_option linter.unusedVariables false
set_option linter.unusedSimpArgs false

def shD (m : Int) : Int := if m = 255 then 256 else if m = 207 then 16 else 8
theorem form255_any (c kd b cy tk x op : Int) (w : World) (h0 : 0 ≤ op) (h1 : op ≤ 255) (k0 : 0 ≤ kd) (k1 : kd ≤ 255) (b0 : 0 ≤ b) (b1 : b ≤ 255) (c0 : 0 ≤ cy) (c1 : cy ≤ 255) (t0 : 0 ≤ tk) (t1 : tk ≤ 255) :
    Calls Tryd.prog 30 #[.agg #[.int .u8 255, .int .u8 c, .int .u8 kd, .int .u8 b, .int .u8 cy, .int .u8 tk, .int .u8 x], .int .u8 op] w fun e w' => e = .returned (.agg #[.int .i64 kd, .int .i64 ((x + bits .andNot .u8 op 255 / 256) % 256), .int .i64 0, .int .i64 b, .int .i64 cy, .int .i64 tk]) ∧ Grown w w' := by
  go_enter Tryd.func30, Tryd.ntmps30
  go_wp2
  go_region_held3 (fun w' => w'.cell? ⟨w.heap.size, 0, none⟩ = some (.int .u8 255)) (go_keep) (first | (go_at_call 46; refine (tz0_any _).mono ?_; rintro e v1 ⟨rfl, rfl⟩))
  go_wp2
  exact bodyPost_ret (v := .agg #[.int .i64 kd, .int .i64 ((x + bits .andNot .u8 op 255 / 256) % 256), .int .i64 0, .int .i64 b, .int .i64 cy, .int .i64 tk]) (by simp [results, Tryd.results30, go_sem]) rfl ⟨rfl, ((alloc1 _ _ _).alloc _ _).drew⟩
theorem form231_any (c kd b cy tk x op : Int) (w : World) (h0 : 0 ≤ op) (h1 : op ≤ 255) (k0 : 0 ≤ kd) (k1 : kd ≤ 255) (b0 : 0 ≤ b) (b1 : b ≤ 255) (c0 : 0 ≤ cy) (c1 : cy ≤ 255) (t0 : 0 ≤ tk) (t1 : tk ≤ 255) :
    Calls Tryd.prog 30 #[.agg #[.int .u8 231, .int .u8 c, .int .u8 kd, .int .u8 b, .int .u8 cy, .int .u8 tk, .int .u8 x], .int .u8 op] w fun e w' => e = .returned (.agg #[.int .i64 kd, .int .i64 ((x + bits .andNot .u8 op 231 / 8) % 256), .int .i64 0, .int .i64 b, .int .i64 cy, .int .i64 tk]) ∧ Grown w w' := by
  go_enter Tryd.func30, Tryd.ntmps30
  go_wp2
  go_region_held3 (fun w' => w'.cell? ⟨w.heap.size, 0, none⟩ = some (.int .u8 231)) (go_keep) (first | (go_at_call 46; refine (tz24_any _).mono ?_; rintro e v1 ⟨rfl, rfl⟩))
  go_wp2
  exact bodyPost_ret (v := .agg #[.int .i64 kd, .int .i64 ((x + bits .andNot .u8 op 231 / 8) % 256), .int .i64 0, .int .i64 b, .int .i64 cy, .int .i64 tk]) (by simp [results, Tryd.results30, go_sem]) rfl ⟨rfl, ((alloc1 _ _ _).alloc _ _).drew⟩
theorem form207_any (c kd b cy tk x op : Int) (w : World) (h0 : 0 ≤ op) (h1 : op ≤ 255) (k0 : 0 ≤ kd) (k1 : kd ≤ 255) (b0 : 0 ≤ b) (b1 : b ≤ 255) (c0 : 0 ≤ cy) (c1 : cy ≤ 255) (t0 : 0 ≤ tk) (t1 : tk ≤ 255) :
    Calls Tryd.prog 30 #[.agg #[.int .u8 207, .int .u8 c, .int .u8 kd, .int .u8 b, .int .u8 cy, .int .u8 tk, .int .u8 x], .int .u8 op] w fun e w' => e = .returned (.agg #[.int .i64 kd, .int .i64 ((x + bits .andNot .u8 op 207 / 16) % 256), .int .i64 0, .int .i64 b, .int .i64 cy, .int .i64 tk]) ∧ Grown w w' := by
  go_enter Tryd.func30, Tryd.ntmps30
  go_wp2
  go_region_held3 (fun w' => w'.cell? ⟨w.heap.size, 0, none⟩ = some (.int .u8 207)) (go_keep) (first | (go_at_call 46; refine (tz48_any _).mono ?_; rintro e v1 ⟨rfl, rfl⟩))
  go_wp2
  exact bodyPost_ret (v := .agg #[.int .i64 kd, .int .i64 ((x + bits .andNot .u8 op 207 / 16) % 256), .int .i64 0, .int .i64 b, .int .i64 cy, .int .i64 tk]) (by simp [results, Tryd.results30, go_sem]) rfl ⟨rfl, ((alloc1 _ _ _).alloc _ _).drew⟩
theorem form199_any (c kd b cy tk x op : Int) (w : World) (h0 : 0 ≤ op) (h1 : op ≤ 255) (k0 : 0 ≤ kd) (k1 : kd ≤ 255) (b0 : 0 ≤ b) (b1 : b ≤ 255) (c0 : 0 ≤ cy) (c1 : cy ≤ 255) (t0 : 0 ≤ tk) (t1 : tk ≤ 255) :
    Calls Tryd.prog 30 #[.agg #[.int .u8 199, .int .u8 c, .int .u8 kd, .int .u8 b, .int .u8 cy, .int .u8 tk, .int .u8 x], .int .u8 op] w fun e w' => e = .returned (.agg #[.int .i64 kd, .int .i64 ((x + bits .andNot .u8 op 199 / 8) % 256), .int .i64 0, .int .i64 b, .int .i64 cy, .int .i64 tk]) ∧ Grown w w' := by
  go_enter Tryd.func30, Tryd.ntmps30
  go_wp2
  go_region_held3 (fun w' => w'.cell? ⟨w.heap.size, 0, none⟩ = some (.int .u8 199)) (go_keep) (first | (go_at_call 46; refine (tz56_any _).mono ?_; rintro e v1 ⟨rfl, rfl⟩))
  go_wp2
  exact bodyPost_ret (v := .agg #[.int .i64 kd, .int .i64 ((x + bits .andNot .u8 op 199 / 8) % 256), .int .i64 0, .int .i64 b, .int .i64 cy, .int .i64 tk]) (by simp [results, Tryd.results30, go_sem]) rfl ⟨rfl, ((alloc1 _ _ _).alloc _ _).drew⟩
theorem form_any (m c kd b cy tk x op : Int) (w : World) (hm : m = 255 ∨ m = 231 ∨ m = 207 ∨ m = 199) (h0 : 0 ≤ op) (h1 : op ≤ 255) (k0 : 0 ≤ kd) (k1 : kd ≤ 255) (b0 : 0 ≤ b) (b1 : b ≤ 255) (c0 : 0 ≤ cy) (c1 : cy ≤ 255) (t0 : 0 ≤ tk) (t1 : tk ≤ 255) :
    Calls Tryd.prog 30 #[.agg #[.int .u8 m, .int .u8 c, .int .u8 kd, .int .u8 b, .int .u8 cy, .int .u8 tk, .int .u8 x], .int .u8 op] w fun e w' => e = .returned (.agg #[.int .i64 kd, .int .i64 ((x + bits .andNot .u8 op m / shD m) % 256), .int .i64 0, .int .i64 b, .int .i64 cy, .int .i64 tk]) ∧ Grown w w' := by
  rcases hm with rfl | rfl | rfl | rfl
  · exact form255_any c kd b cy tk x op w h0 h1 k0 k1 b0 b1 c0 c1 t0 t1
  · exact form231_any c kd b cy tk x op w h0 h1 k0 k1 b0 b1 c0 c1 t0 t1
  · exact form207_any c kd b cy tk x op w h0 h1 k0 k1 b0 b1 c0 c1 t0 t1
  · exact form199_any c kd b cy tk x op w h0 h1 k0 k1 b0 b1 c0 c1 t0 t1
end Go.Proofs.YtbflhpffojlpgaaDoor
