/- What the document's answers of layer 8 come to: Write, kind 3. What the document's answers of layer 8 come to: Write, kind 5. What the document's answers of layer 8 come to: Write, kind any other. -/
import Derived.Test.YtfmddnekooojkaaGreatDoorG04
import Derived.Test.YtfmddnekooojkaaGreatDoorChecked
import Derived.Deep.QuietTactic
import Derived.BigQuiet
namespace Go.Proofs.YtfmddnekooojkaaGreatDoor
open Go.RowKit
set_option linter.unusedVariables false
set_option linter.unusedSimpArgs false

set_option maxRecDepth 100000 in
theorem rwr30 (m : Mp) (a v : Int) (w : World) (a0 : 0 ≤ a) (a1 : a ≤ 65535) (v0 : 0 ≤ v) (v1 : v ≤ 255) (ha : a < 8192) :
    Calls Tryz.prog 35 #[.agg #[.int .i64 3, .bool m.op, .int .u8 m.low, .int .u8 m.high, .int .u8 m.ram, .bool m.mode], .int .u16 a, .int .u8 v] w fun e w' => e = .returned (.agg #[.int .i64 3, .bool (v % 16 == 10), .int .u8 m.low, .int .u8 m.high, .int .u8 m.ram, .bool m.mode]) ∧ Kept w w' := by
  have f0 : (a < 8192) := by omega
  have g0 : ¬ (8192 ≤ a) := by omega
  have d0 : decide (a < 8192) = true := decide_eq_true f0
  have q0 : decide (8192 ≤ a) = false := decide_eq_false g0
  have f1 : (a < 12288) := by omega
  have g1 : ¬ (12288 ≤ a) := by omega
  have d1 : decide (a < 12288) = true := decide_eq_true f1
  have q1 : decide (12288 ≤ a) = false := decide_eq_false g1
  have f2 : (a < 16384) := by omega
  have g2 : ¬ (16384 ≤ a) := by omega
  have d2 : decide (a < 16384) = true := decide_eq_true f2
  have q2 : decide (16384 ≤ a) = false := decide_eq_false g2
  have f3 : (a < 24576) := by omega
  have g3 : ¬ (24576 ≤ a) := by omega
  have d3 : decide (a < 24576) = true := decide_eq_true f3
  have q3 : decide (24576 ≤ a) = false := decide_eq_false g3
  have f4 : (a < 32768) := by omega
  have g4 : ¬ (32768 ≤ a) := by omega
  have d4 : decide (a < 32768) = true := decide_eq_true f4
  have q4 : decide (32768 ≤ a) = false := decide_eq_false g4
  have wa : IntKind.i64.wrap a = a := by rw [IntKind.wrap_i64]; omega
  have wv : IntKind.i64.wrap v = v := by rw [IntKind.wrap_i64]; omega
  have t16 : Int.tmod v 16 = v % 16 := Int.tmod_eq_emod_of_nonneg v0
  have t32 : Int.tmod v 32 = v % 32 := Int.tmod_eq_emod_of_nonneg v0
  have t4 : Int.tmod v 4 = v % 4 := Int.tmod_eq_emod_of_nonneg v0
  have t2 : Int.tmod v 2 = v % 2 := Int.tmod_eq_emod_of_nonneg v0
  have t128 : Int.tmod v 128 = v % 128 := Int.tmod_eq_emod_of_nonneg v0
  have b16 : IntKind.u8.wrap (v % 16) = v % 16 := by rw [IntKind.wrap_u8]; omega
  have b32 : IntKind.u8.wrap (v % 32) = v % 32 := by rw [IntKind.wrap_u8]; omega
  have b4 : IntKind.u8.wrap (v % 4) = v % 4 := by rw [IntKind.wrap_u8]; omega
  have b2 : IntKind.u8.wrap (v % 2) = v % 2 := by rw [IntKind.wrap_u8]; omega
  have b128 : IntKind.u8.wrap (v % 128) = v % 128 := by rw [IntKind.wrap_u8]; omega
  go_enter Tryz.func35, Tryz.ntmps35
  go_wp2
  exact bodyPost_ret (v := .agg #[.int .i64 3, .bool (v % 16 == 10), .int .u8 m.low, .int .u8 m.high, .int .u8 m.ram, .bool m.mode]) (by simp [results, Tryz.results35, go_sem]) rfl ⟨rfl, by repeat (first | with_reducible exact Kept.refl _ | with_reducible refine Kept.alloc ?_ _)⟩
set_option maxRecDepth 100000 in
theorem rwr31 (m : Mp) (a v : Int) (w : World) (a0 : 0 ≤ a) (a1 : a ≤ 65535) (v0 : 0 ≤ v) (v1 : v ≤ 255) (ha : 8192 ≤ a ∧ a < 12288) :
    Calls Tryz.prog 35 #[.agg #[.int .i64 3, .bool m.op, .int .u8 m.low, .int .u8 m.high, .int .u8 m.ram, .bool m.mode], .int .u16 a, .int .u8 v] w fun e w' => e = .returned (.agg #[.int .i64 3, .bool m.op, .int .u8 (v % 128), .int .u8 m.high, .int .u8 m.ram, .bool m.mode]) ∧ Kept w w' := by
  have f0 : ¬ (a < 8192) := by omega
  have g0 : (8192 ≤ a) := by omega
  have d0 : decide (a < 8192) = false := decide_eq_false f0
  have q0 : decide (8192 ≤ a) = true := decide_eq_true g0
  have f1 : (a < 12288) := by omega
  have g1 : ¬ (12288 ≤ a) := by omega
  have d1 : decide (a < 12288) = true := decide_eq_true f1
  have q1 : decide (12288 ≤ a) = false := decide_eq_false g1
  have f2 : (a < 16384) := by omega
  have g2 : ¬ (16384 ≤ a) := by omega
  have d2 : decide (a < 16384) = true := decide_eq_true f2
  have q2 : decide (16384 ≤ a) = false := decide_eq_false g2
  have f3 : (a < 24576) := by omega
  have g3 : ¬ (24576 ≤ a) := by omega
  have d3 : decide (a < 24576) = true := decide_eq_true f3
  have q3 : decide (24576 ≤ a) = false := decide_eq_false g3
  have f4 : (a < 32768) := by omega
  have g4 : ¬ (32768 ≤ a) := by omega
  have d4 : decide (a < 32768) = true := decide_eq_true f4
  have q4 : decide (32768 ≤ a) = false := decide_eq_false g4
  have wa : IntKind.i64.wrap a = a := by rw [IntKind.wrap_i64]; omega
  have wv : IntKind.i64.wrap v = v := by rw [IntKind.wrap_i64]; omega
  have t16 : Int.tmod v 16 = v % 16 := Int.tmod_eq_emod_of_nonneg v0
  have t32 : Int.tmod v 32 = v % 32 := Int.tmod_eq_emod_of_nonneg v0
  have t4 : Int.tmod v 4 = v % 4 := Int.tmod_eq_emod_of_nonneg v0
  have t2 : Int.tmod v 2 = v % 2 := Int.tmod_eq_emod_of_nonneg v0
  have t128 : Int.tmod v 128 = v % 128 := Int.tmod_eq_emod_of_nonneg v0
  have b16 : IntKind.u8.wrap (v % 16) = v % 16 := by rw [IntKind.wrap_u8]; omega
  have b32 : IntKind.u8.wrap (v % 32) = v % 32 := by rw [IntKind.wrap_u8]; omega
  have b4 : IntKind.u8.wrap (v % 4) = v % 4 := by rw [IntKind.wrap_u8]; omega
  have b2 : IntKind.u8.wrap (v % 2) = v % 2 := by rw [IntKind.wrap_u8]; omega
  have b128 : IntKind.u8.wrap (v % 128) = v % 128 := by rw [IntKind.wrap_u8]; omega
  go_enter Tryz.func35, Tryz.ntmps35
  go_wp2
  exact bodyPost_ret (v := .agg #[.int .i64 3, .bool m.op, .int .u8 (v % 128), .int .u8 m.high, .int .u8 m.ram, .bool m.mode]) (by simp [results, Tryz.results35, go_sem]) rfl ⟨rfl, by repeat (first | with_reducible exact Kept.refl _ | with_reducible refine Kept.alloc ?_ _)⟩
set_option maxRecDepth 100000 in
theorem rwr32 (m : Mp) (a v : Int) (w : World) (a0 : 0 ≤ a) (a1 : a ≤ 65535) (v0 : 0 ≤ v) (v1 : v ≤ 255) (ha : 12288 ≤ a ∧ a < 16384) :
    Calls Tryz.prog 35 #[.agg #[.int .i64 3, .bool m.op, .int .u8 m.low, .int .u8 m.high, .int .u8 m.ram, .bool m.mode], .int .u16 a, .int .u8 v] w fun e w' => e = .returned (.agg #[.int .i64 3, .bool m.op, .int .u8 (v % 128), .int .u8 m.high, .int .u8 m.ram, .bool m.mode]) ∧ Kept w w' := by
  have f0 : ¬ (a < 8192) := by omega
  have g0 : (8192 ≤ a) := by omega
  have d0 : decide (a < 8192) = false := decide_eq_false f0
  have q0 : decide (8192 ≤ a) = true := decide_eq_true g0
  have f1 : ¬ (a < 12288) := by omega
  have g1 : (12288 ≤ a) := by omega
  have d1 : decide (a < 12288) = false := decide_eq_false f1
  have q1 : decide (12288 ≤ a) = true := decide_eq_true g1
  have f2 : (a < 16384) := by omega
  have g2 : ¬ (16384 ≤ a) := by omega
  have d2 : decide (a < 16384) = true := decide_eq_true f2
  have q2 : decide (16384 ≤ a) = false := decide_eq_false g2
  have f3 : (a < 24576) := by omega
  have g3 : ¬ (24576 ≤ a) := by omega
  have d3 : decide (a < 24576) = true := decide_eq_true f3
  have q3 : decide (24576 ≤ a) = false := decide_eq_false g3
  have f4 : (a < 32768) := by omega
  have g4 : ¬ (32768 ≤ a) := by omega
  have d4 : decide (a < 32768) = true := decide_eq_true f4
  have q4 : decide (32768 ≤ a) = false := decide_eq_false g4
  have wa : IntKind.i64.wrap a = a := by rw [IntKind.wrap_i64]; omega
  have wv : IntKind.i64.wrap v = v := by rw [IntKind.wrap_i64]; omega
  have t16 : Int.tmod v 16 = v % 16 := Int.tmod_eq_emod_of_nonneg v0
  have t32 : Int.tmod v 32 = v % 32 := Int.tmod_eq_emod_of_nonneg v0
  have t4 : Int.tmod v 4 = v % 4 := Int.tmod_eq_emod_of_nonneg v0
  have t2 : Int.tmod v 2 = v % 2 := Int.tmod_eq_emod_of_nonneg v0
  have t128 : Int.tmod v 128 = v % 128 := Int.tmod_eq_emod_of_nonneg v0
  have b16 : IntKind.u8.wrap (v % 16) = v % 16 := by rw [IntKind.wrap_u8]; omega
  have b32 : IntKind.u8.wrap (v % 32) = v % 32 := by rw [IntKind.wrap_u8]; omega
  have b4 : IntKind.u8.wrap (v % 4) = v % 4 := by rw [IntKind.wrap_u8]; omega
  have b2 : IntKind.u8.wrap (v % 2) = v % 2 := by rw [IntKind.wrap_u8]; omega
  have b128 : IntKind.u8.wrap (v % 128) = v % 128 := by rw [IntKind.wrap_u8]; omega
  go_enter Tryz.func35, Tryz.ntmps35
  go_wp2
  exact bodyPost_ret (v := .agg #[.int .i64 3, .bool m.op, .int .u8 (v % 128), .int .u8 m.high, .int .u8 m.ram, .bool m.mode]) (by simp [results, Tryz.results35, go_sem]) rfl ⟨rfl, by repeat (first | with_reducible exact Kept.refl _ | with_reducible refine Kept.alloc ?_ _)⟩
set_option maxRecDepth 100000 in
theorem rwr33 (m : Mp) (a v : Int) (w : World) (a0 : 0 ≤ a) (a1 : a ≤ 65535) (v0 : 0 ≤ v) (v1 : v ≤ 255) (ha : 16384 ≤ a ∧ a < 24576) :
    Calls Tryz.prog 35 #[.agg #[.int .i64 3, .bool m.op, .int .u8 m.low, .int .u8 m.high, .int .u8 m.ram, .bool m.mode], .int .u16 a, .int .u8 v] w fun e w' => e = .returned (.agg #[.int .i64 3, .bool m.op, .int .u8 m.low, .int .u8 m.high, .int .u8 (v % 16), .bool m.mode]) ∧ Kept w w' := by
  have f0 : ¬ (a < 8192) := by omega
  have g0 : (8192 ≤ a) := by omega
  have d0 : decide (a < 8192) = false := decide_eq_false f0
  have q0 : decide (8192 ≤ a) = true := decide_eq_true g0
  have f1 : ¬ (a < 12288) := by omega
  have g1 : (12288 ≤ a) := by omega
  have d1 : decide (a < 12288) = false := decide_eq_false f1
  have q1 : decide (12288 ≤ a) = true := decide_eq_true g1
  have f2 : ¬ (a < 16384) := by omega
  have g2 : (16384 ≤ a) := by omega
  have d2 : decide (a < 16384) = false := decide_eq_false f2
  have q2 : decide (16384 ≤ a) = true := decide_eq_true g2
  have f3 : (a < 24576) := by omega
  have g3 : ¬ (24576 ≤ a) := by omega
  have d3 : decide (a < 24576) = true := decide_eq_true f3
  have q3 : decide (24576 ≤ a) = false := decide_eq_false g3
  have f4 : (a < 32768) := by omega
  have g4 : ¬ (32768 ≤ a) := by omega
  have d4 : decide (a < 32768) = true := decide_eq_true f4
  have q4 : decide (32768 ≤ a) = false := decide_eq_false g4
  have wa : IntKind.i64.wrap a = a := by rw [IntKind.wrap_i64]; omega
  have wv : IntKind.i64.wrap v = v := by rw [IntKind.wrap_i64]; omega
  have t16 : Int.tmod v 16 = v % 16 := Int.tmod_eq_emod_of_nonneg v0
  have t32 : Int.tmod v 32 = v % 32 := Int.tmod_eq_emod_of_nonneg v0
  have t4 : Int.tmod v 4 = v % 4 := Int.tmod_eq_emod_of_nonneg v0
  have t2 : Int.tmod v 2 = v % 2 := Int.tmod_eq_emod_of_nonneg v0
  have t128 : Int.tmod v 128 = v % 128 := Int.tmod_eq_emod_of_nonneg v0
  have b16 : IntKind.u8.wrap (v % 16) = v % 16 := by rw [IntKind.wrap_u8]; omega
  have b32 : IntKind.u8.wrap (v % 32) = v % 32 := by rw [IntKind.wrap_u8]; omega
  have b4 : IntKind.u8.wrap (v % 4) = v % 4 := by rw [IntKind.wrap_u8]; omega
  have b2 : IntKind.u8.wrap (v % 2) = v % 2 := by rw [IntKind.wrap_u8]; omega
  have b128 : IntKind.u8.wrap (v % 128) = v % 128 := by rw [IntKind.wrap_u8]; omega
  go_enter Tryz.func35, Tryz.ntmps35
  go_wp2
  exact bodyPost_ret (v := .agg #[.int .i64 3, .bool m.op, .int .u8 m.low, .int .u8 m.high, .int .u8 (v % 16), .bool m.mode]) (by simp [results, Tryz.results35, go_sem]) rfl ⟨rfl, by repeat (first | with_reducible exact Kept.refl _ | with_reducible refine Kept.alloc ?_ _)⟩
set_option maxRecDepth 100000 in
theorem rwr34 (m : Mp) (a v : Int) (w : World) (a0 : 0 ≤ a) (a1 : a ≤ 65535) (v0 : 0 ≤ v) (v1 : v ≤ 255) (ha : 24576 ≤ a ∧ a < 32768) :
    Calls Tryz.prog 35 #[.agg #[.int .i64 3, .bool m.op, .int .u8 m.low, .int .u8 m.high, .int .u8 m.ram, .bool m.mode], .int .u16 a, .int .u8 v] w fun e w' => e = .returned (.agg #[.int .i64 3, .bool m.op, .int .u8 m.low, .int .u8 m.high, .int .u8 m.ram, .bool m.mode]) ∧ Kept w w' := by
  have f0 : ¬ (a < 8192) := by omega
  have g0 : (8192 ≤ a) := by omega
  have d0 : decide (a < 8192) = false := decide_eq_false f0
  have q0 : decide (8192 ≤ a) = true := decide_eq_true g0
  have f1 : ¬ (a < 12288) := by omega
  have g1 : (12288 ≤ a) := by omega
  have d1 : decide (a < 12288) = false := decide_eq_false f1
  have q1 : decide (12288 ≤ a) = true := decide_eq_true g1
  have f2 : ¬ (a < 16384) := by omega
  have g2 : (16384 ≤ a) := by omega
  have d2 : decide (a < 16384) = false := decide_eq_false f2
  have q2 : decide (16384 ≤ a) = true := decide_eq_true g2
  have f3 : ¬ (a < 24576) := by omega
  have g3 : (24576 ≤ a) := by omega
  have d3 : decide (a < 24576) = false := decide_eq_false f3
  have q3 : decide (24576 ≤ a) = true := decide_eq_true g3
  have f4 : (a < 32768) := by omega
  have g4 : ¬ (32768 ≤ a) := by omega
  have d4 : decide (a < 32768) = true := decide_eq_true f4
  have q4 : decide (32768 ≤ a) = false := decide_eq_false g4
  have wa : IntKind.i64.wrap a = a := by rw [IntKind.wrap_i64]; omega
  have wv : IntKind.i64.wrap v = v := by rw [IntKind.wrap_i64]; omega
  have t16 : Int.tmod v 16 = v % 16 := Int.tmod_eq_emod_of_nonneg v0
  have t32 : Int.tmod v 32 = v % 32 := Int.tmod_eq_emod_of_nonneg v0
  have t4 : Int.tmod v 4 = v % 4 := Int.tmod_eq_emod_of_nonneg v0
  have t2 : Int.tmod v 2 = v % 2 := Int.tmod_eq_emod_of_nonneg v0
  have t128 : Int.tmod v 128 = v % 128 := Int.tmod_eq_emod_of_nonneg v0
  have b16 : IntKind.u8.wrap (v % 16) = v % 16 := by rw [IntKind.wrap_u8]; omega
  have b32 : IntKind.u8.wrap (v % 32) = v % 32 := by rw [IntKind.wrap_u8]; omega
  have b4 : IntKind.u8.wrap (v % 4) = v % 4 := by rw [IntKind.wrap_u8]; omega
  have b2 : IntKind.u8.wrap (v % 2) = v % 2 := by rw [IntKind.wrap_u8]; omega
  have b128 : IntKind.u8.wrap (v % 128) = v % 128 := by rw [IntKind.wrap_u8]; omega
  go_enter Tryz.func35, Tryz.ntmps35
  go_wp2
  exact bodyPost_ret (v := .agg #[.int .i64 3, .bool m.op, .int .u8 m.low, .int .u8 m.high, .int .u8 m.ram, .bool m.mode]) (by simp [results, Tryz.results35, go_sem]) rfl ⟨rfl, by repeat (first | with_reducible exact Kept.refl _ | with_reducible refine Kept.alloc ?_ _)⟩
set_option maxRecDepth 100000 in
theorem rwr35 (m : Mp) (a v : Int) (w : World) (a0 : 0 ≤ a) (a1 : a ≤ 65535) (v0 : 0 ≤ v) (v1 : v ≤ 255) (ha : 32768 ≤ a) :
    Calls Tryz.prog 35 #[.agg #[.int .i64 3, .bool m.op, .int .u8 m.low, .int .u8 m.high, .int .u8 m.ram, .bool m.mode], .int .u16 a, .int .u8 v] w fun e w' => e = .returned (.agg #[.int .i64 3, .bool m.op, .int .u8 m.low, .int .u8 m.high, .int .u8 m.ram, .bool m.mode]) ∧ Kept w w' := by
  have f0 : ¬ (a < 8192) := by omega
  have g0 : (8192 ≤ a) := by omega
  have d0 : decide (a < 8192) = false := decide_eq_false f0
  have q0 : decide (8192 ≤ a) = true := decide_eq_true g0
  have f1 : ¬ (a < 12288) := by omega
  have g1 : (12288 ≤ a) := by omega
  have d1 : decide (a < 12288) = false := decide_eq_false f1
  have q1 : decide (12288 ≤ a) = true := decide_eq_true g1
  have f2 : ¬ (a < 16384) := by omega
  have g2 : (16384 ≤ a) := by omega
  have d2 : decide (a < 16384) = false := decide_eq_false f2
  have q2 : decide (16384 ≤ a) = true := decide_eq_true g2
  have f3 : ¬ (a < 24576) := by omega
  have g3 : (24576 ≤ a) := by omega
  have d3 : decide (a < 24576) = false := decide_eq_false f3
  have q3 : decide (24576 ≤ a) = true := decide_eq_true g3
  have f4 : ¬ (a < 32768) := by omega
  have g4 : (32768 ≤ a) := by omega
  have d4 : decide (a < 32768) = false := decide_eq_false f4
  have q4 : decide (32768 ≤ a) = true := decide_eq_true g4
  have wa : IntKind.i64.wrap a = a := by rw [IntKind.wrap_i64]; omega
  have wv : IntKind.i64.wrap v = v := by rw [IntKind.wrap_i64]; omega
  have t16 : Int.tmod v 16 = v % 16 := Int.tmod_eq_emod_of_nonneg v0
  have t32 : Int.tmod v 32 = v % 32 := Int.tmod_eq_emod_of_nonneg v0
  have t4 : Int.tmod v 4 = v % 4 := Int.tmod_eq_emod_of_nonneg v0
  have t2 : Int.tmod v 2 = v % 2 := Int.tmod_eq_emod_of_nonneg v0
  have t128 : Int.tmod v 128 = v % 128 := Int.tmod_eq_emod_of_nonneg v0
  have b16 : IntKind.u8.wrap (v % 16) = v % 16 := by rw [IntKind.wrap_u8]; omega
  have b32 : IntKind.u8.wrap (v % 32) = v % 32 := by rw [IntKind.wrap_u8]; omega
  have b4 : IntKind.u8.wrap (v % 4) = v % 4 := by rw [IntKind.wrap_u8]; omega
  have b2 : IntKind.u8.wrap (v % 2) = v % 2 := by rw [IntKind.wrap_u8]; omega
  have b128 : IntKind.u8.wrap (v % 128) = v % 128 := by rw [IntKind.wrap_u8]; omega
  go_enter Tryz.func35, Tryz.ntmps35
  go_wp2
  exact bodyPost_ret (v := .agg #[.int .i64 3, .bool m.op, .int .u8 m.low, .int .u8 m.high, .int .u8 m.ram, .bool m.mode]) (by simp [results, Tryz.results35, go_sem]) rfl ⟨rfl, by repeat (first | with_reducible exact Kept.refl _ | with_reducible refine Kept.alloc ?_ _)⟩
end Go.Proofs.YtfmddnekooojkaaGreatDoor
namespace Go.Proofs.YtfmddnekooojkaaGreatDoor
open Go.RowKit
set_option linter.unusedVariables false
set_option linter.unusedSimpArgs false

set_option maxRecDepth 100000 in
theorem rwr50 (m : Mp) (a v : Int) (w : World) (a0 : 0 ≤ a) (a1 : a ≤ 65535) (v0 : 0 ≤ v) (v1 : v ≤ 255) (ha : a < 8192) :
    Calls Tryz.prog 35 #[.agg #[.int .i64 5, .bool m.op, .int .u8 m.low, .int .u8 m.high, .int .u8 m.ram, .bool m.mode], .int .u16 a, .int .u8 v] w fun e w' => e = .returned (.agg #[.int .i64 5, .bool (v == 10), .int .u8 m.low, .int .u8 m.high, .int .u8 m.ram, .bool m.mode]) ∧ Kept w w' := by
  have f0 : (a < 8192) := by omega
  have g0 : ¬ (8192 ≤ a) := by omega
  have d0 : decide (a < 8192) = true := decide_eq_true f0
  have q0 : decide (8192 ≤ a) = false := decide_eq_false g0
  have f1 : (a < 12288) := by omega
  have g1 : ¬ (12288 ≤ a) := by omega
  have d1 : decide (a < 12288) = true := decide_eq_true f1
  have q1 : decide (12288 ≤ a) = false := decide_eq_false g1
  have f2 : (a < 16384) := by omega
  have g2 : ¬ (16384 ≤ a) := by omega
  have d2 : decide (a < 16384) = true := decide_eq_true f2
  have q2 : decide (16384 ≤ a) = false := decide_eq_false g2
  have f3 : (a < 24576) := by omega
  have g3 : ¬ (24576 ≤ a) := by omega
  have d3 : decide (a < 24576) = true := decide_eq_true f3
  have q3 : decide (24576 ≤ a) = false := decide_eq_false g3
  have f4 : (a < 32768) := by omega
  have g4 : ¬ (32768 ≤ a) := by omega
  have d4 : decide (a < 32768) = true := decide_eq_true f4
  have q4 : decide (32768 ≤ a) = false := decide_eq_false g4
  have wa : IntKind.i64.wrap a = a := by rw [IntKind.wrap_i64]; omega
  have wv : IntKind.i64.wrap v = v := by rw [IntKind.wrap_i64]; omega
  have t16 : Int.tmod v 16 = v % 16 := Int.tmod_eq_emod_of_nonneg v0
  have t32 : Int.tmod v 32 = v % 32 := Int.tmod_eq_emod_of_nonneg v0
  have t4 : Int.tmod v 4 = v % 4 := Int.tmod_eq_emod_of_nonneg v0
  have t2 : Int.tmod v 2 = v % 2 := Int.tmod_eq_emod_of_nonneg v0
  have t128 : Int.tmod v 128 = v % 128 := Int.tmod_eq_emod_of_nonneg v0
  have b16 : IntKind.u8.wrap (v % 16) = v % 16 := by rw [IntKind.wrap_u8]; omega
  have b32 : IntKind.u8.wrap (v % 32) = v % 32 := by rw [IntKind.wrap_u8]; omega
  have b4 : IntKind.u8.wrap (v % 4) = v % 4 := by rw [IntKind.wrap_u8]; omega
  have b2 : IntKind.u8.wrap (v % 2) = v % 2 := by rw [IntKind.wrap_u8]; omega
  have b128 : IntKind.u8.wrap (v % 128) = v % 128 := by rw [IntKind.wrap_u8]; omega
  go_enter Tryz.func35, Tryz.ntmps35
  go_wp2
  exact bodyPost_ret (v := .agg #[.int .i64 5, .bool (v == 10), .int .u8 m.low, .int .u8 m.high, .int .u8 m.ram, .bool m.mode]) (by simp [results, Tryz.results35, go_sem]) rfl ⟨rfl, by repeat (first | with_reducible exact Kept.refl _ | with_reducible refine Kept.alloc ?_ _)⟩
set_option maxRecDepth 100000 in
theorem rwr51 (m : Mp) (a v : Int) (w : World) (a0 : 0 ≤ a) (a1 : a ≤ 65535) (v0 : 0 ≤ v) (v1 : v ≤ 255) (ha : 8192 ≤ a ∧ a < 12288) :
    Calls Tryz.prog 35 #[.agg #[.int .i64 5, .bool m.op, .int .u8 m.low, .int .u8 m.high, .int .u8 m.ram, .bool m.mode], .int .u16 a, .int .u8 v] w fun e w' => e = .returned (.agg #[.int .i64 5, .bool m.op, .int .u8 v, .int .u8 m.high, .int .u8 m.ram, .bool m.mode]) ∧ Kept w w' := by
  have f0 : ¬ (a < 8192) := by omega
  have g0 : (8192 ≤ a) := by omega
  have d0 : decide (a < 8192) = false := decide_eq_false f0
  have q0 : decide (8192 ≤ a) = true := decide_eq_true g0
  have f1 : (a < 12288) := by omega
  have g1 : ¬ (12288 ≤ a) := by omega
  have d1 : decide (a < 12288) = true := decide_eq_true f1
  have q1 : decide (12288 ≤ a) = false := decide_eq_false g1
  have f2 : (a < 16384) := by omega
  have g2 : ¬ (16384 ≤ a) := by omega
  have d2 : decide (a < 16384) = true := decide_eq_true f2
  have q2 : decide (16384 ≤ a) = false := decide_eq_false g2
  have f3 : (a < 24576) := by omega
  have g3 : ¬ (24576 ≤ a) := by omega
  have d3 : decide (a < 24576) = true := decide_eq_true f3
  have q3 : decide (24576 ≤ a) = false := decide_eq_false g3
  have f4 : (a < 32768) := by omega
  have g4 : ¬ (32768 ≤ a) := by omega
  have d4 : decide (a < 32768) = true := decide_eq_true f4
  have q4 : decide (32768 ≤ a) = false := decide_eq_false g4
  have wa : IntKind.i64.wrap a = a := by rw [IntKind.wrap_i64]; omega
  have wv : IntKind.i64.wrap v = v := by rw [IntKind.wrap_i64]; omega
  have t16 : Int.tmod v 16 = v % 16 := Int.tmod_eq_emod_of_nonneg v0
  have t32 : Int.tmod v 32 = v % 32 := Int.tmod_eq_emod_of_nonneg v0
  have t4 : Int.tmod v 4 = v % 4 := Int.tmod_eq_emod_of_nonneg v0
  have t2 : Int.tmod v 2 = v % 2 := Int.tmod_eq_emod_of_nonneg v0
  have t128 : Int.tmod v 128 = v % 128 := Int.tmod_eq_emod_of_nonneg v0
  have b16 : IntKind.u8.wrap (v % 16) = v % 16 := by rw [IntKind.wrap_u8]; omega
  have b32 : IntKind.u8.wrap (v % 32) = v % 32 := by rw [IntKind.wrap_u8]; omega
  have b4 : IntKind.u8.wrap (v % 4) = v % 4 := by rw [IntKind.wrap_u8]; omega
  have b2 : IntKind.u8.wrap (v % 2) = v % 2 := by rw [IntKind.wrap_u8]; omega
  have b128 : IntKind.u8.wrap (v % 128) = v % 128 := by rw [IntKind.wrap_u8]; omega
  go_enter Tryz.func35, Tryz.ntmps35
  go_wp2
  exact bodyPost_ret (v := .agg #[.int .i64 5, .bool m.op, .int .u8 v, .int .u8 m.high, .int .u8 m.ram, .bool m.mode]) (by simp [results, Tryz.results35, go_sem]) rfl ⟨rfl, by repeat (first | with_reducible exact Kept.refl _ | with_reducible refine Kept.alloc ?_ _)⟩
set_option maxRecDepth 100000 in
theorem rwr52 (m : Mp) (a v : Int) (w : World) (a0 : 0 ≤ a) (a1 : a ≤ 65535) (v0 : 0 ≤ v) (v1 : v ≤ 255) (ha : 12288 ≤ a ∧ a < 16384) :
    Calls Tryz.prog 35 #[.agg #[.int .i64 5, .bool m.op, .int .u8 m.low, .int .u8 m.high, .int .u8 m.ram, .bool m.mode], .int .u16 a, .int .u8 v] w fun e w' => e = .returned (.agg #[.int .i64 5, .bool m.op, .int .u8 m.low, .int .u8 (v % 2), .int .u8 m.ram, .bool m.mode]) ∧ Kept w w' := by
  have f0 : ¬ (a < 8192) := by omega
  have g0 : (8192 ≤ a) := by omega
  have d0 : decide (a < 8192) = false := decide_eq_false f0
  have q0 : decide (8192 ≤ a) = true := decide_eq_true g0
  have f1 : ¬ (a < 12288) := by omega
  have g1 : (12288 ≤ a) := by omega
  have d1 : decide (a < 12288) = false := decide_eq_false f1
  have q1 : decide (12288 ≤ a) = true := decide_eq_true g1
  have f2 : (a < 16384) := by omega
  have g2 : ¬ (16384 ≤ a) := by omega
  have d2 : decide (a < 16384) = true := decide_eq_true f2
  have q2 : decide (16384 ≤ a) = false := decide_eq_false g2
  have f3 : (a < 24576) := by omega
  have g3 : ¬ (24576 ≤ a) := by omega
  have d3 : decide (a < 24576) = true := decide_eq_true f3
  have q3 : decide (24576 ≤ a) = false := decide_eq_false g3
  have f4 : (a < 32768) := by omega
  have g4 : ¬ (32768 ≤ a) := by omega
  have d4 : decide (a < 32768) = true := decide_eq_true f4
  have q4 : decide (32768 ≤ a) = false := decide_eq_false g4
  have wa : IntKind.i64.wrap a = a := by rw [IntKind.wrap_i64]; omega
  have wv : IntKind.i64.wrap v = v := by rw [IntKind.wrap_i64]; omega
  have t16 : Int.tmod v 16 = v % 16 := Int.tmod_eq_emod_of_nonneg v0
  have t32 : Int.tmod v 32 = v % 32 := Int.tmod_eq_emod_of_nonneg v0
  have t4 : Int.tmod v 4 = v % 4 := Int.tmod_eq_emod_of_nonneg v0
  have t2 : Int.tmod v 2 = v % 2 := Int.tmod_eq_emod_of_nonneg v0
  have t128 : Int.tmod v 128 = v % 128 := Int.tmod_eq_emod_of_nonneg v0
  have b16 : IntKind.u8.wrap (v % 16) = v % 16 := by rw [IntKind.wrap_u8]; omega
  have b32 : IntKind.u8.wrap (v % 32) = v % 32 := by rw [IntKind.wrap_u8]; omega
  have b4 : IntKind.u8.wrap (v % 4) = v % 4 := by rw [IntKind.wrap_u8]; omega
  have b2 : IntKind.u8.wrap (v % 2) = v % 2 := by rw [IntKind.wrap_u8]; omega
  have b128 : IntKind.u8.wrap (v % 128) = v % 128 := by rw [IntKind.wrap_u8]; omega
  go_enter Tryz.func35, Tryz.ntmps35
  go_wp2
  exact bodyPost_ret (v := .agg #[.int .i64 5, .bool m.op, .int .u8 m.low, .int .u8 (v % 2), .int .u8 m.ram, .bool m.mode]) (by simp [results, Tryz.results35, go_sem]) rfl ⟨rfl, by repeat (first | with_reducible exact Kept.refl _ | with_reducible refine Kept.alloc ?_ _)⟩
set_option maxRecDepth 100000 in
theorem rwr53 (m : Mp) (a v : Int) (w : World) (a0 : 0 ≤ a) (a1 : a ≤ 65535) (v0 : 0 ≤ v) (v1 : v ≤ 255) (ha : 16384 ≤ a ∧ a < 24576) :
    Calls Tryz.prog 35 #[.agg #[.int .i64 5, .bool m.op, .int .u8 m.low, .int .u8 m.high, .int .u8 m.ram, .bool m.mode], .int .u16 a, .int .u8 v] w fun e w' => e = .returned (.agg #[.int .i64 5, .bool m.op, .int .u8 m.low, .int .u8 m.high, .int .u8 (v % 16), .bool m.mode]) ∧ Kept w w' := by
  have f0 : ¬ (a < 8192) := by omega
  have g0 : (8192 ≤ a) := by omega
  have d0 : decide (a < 8192) = false := decide_eq_false f0
  have q0 : decide (8192 ≤ a) = true := decide_eq_true g0
  have f1 : ¬ (a < 12288) := by omega
  have g1 : (12288 ≤ a) := by omega
  have d1 : decide (a < 12288) = false := decide_eq_false f1
  have q1 : decide (12288 ≤ a) = true := decide_eq_true g1
  have f2 : ¬ (a < 16384) := by omega
  have g2 : (16384 ≤ a) := by omega
  have d2 : decide (a < 16384) = false := decide_eq_false f2
  have q2 : decide (16384 ≤ a) = true := decide_eq_true g2
  have f3 : (a < 24576) := by omega
  have g3 : ¬ (24576 ≤ a) := by omega
  have d3 : decide (a < 24576) = true := decide_eq_true f3
  have q3 : decide (24576 ≤ a) = false := decide_eq_false g3
  have f4 : (a < 32768) := by omega
  have g4 : ¬ (32768 ≤ a) := by omega
  have d4 : decide (a < 32768) = true := decide_eq_true f4
  have q4 : decide (32768 ≤ a) = false := decide_eq_false g4
  have wa : IntKind.i64.wrap a = a := by rw [IntKind.wrap_i64]; omega
  have wv : IntKind.i64.wrap v = v := by rw [IntKind.wrap_i64]; omega
  have t16 : Int.tmod v 16 = v % 16 := Int.tmod_eq_emod_of_nonneg v0
  have t32 : Int.tmod v 32 = v % 32 := Int.tmod_eq_emod_of_nonneg v0
  have t4 : Int.tmod v 4 = v % 4 := Int.tmod_eq_emod_of_nonneg v0
  have t2 : Int.tmod v 2 = v % 2 := Int.tmod_eq_emod_of_nonneg v0
  have t128 : Int.tmod v 128 = v % 128 := Int.tmod_eq_emod_of_nonneg v0
  have b16 : IntKind.u8.wrap (v % 16) = v % 16 := by rw [IntKind.wrap_u8]; omega
  have b32 : IntKind.u8.wrap (v % 32) = v % 32 := by rw [IntKind.wrap_u8]; omega
  have b4 : IntKind.u8.wrap (v % 4) = v % 4 := by rw [IntKind.wrap_u8]; omega
  have b2 : IntKind.u8.wrap (v % 2) = v % 2 := by rw [IntKind.wrap_u8]; omega
  have b128 : IntKind.u8.wrap (v % 128) = v % 128 := by rw [IntKind.wrap_u8]; omega
  go_enter Tryz.func35, Tryz.ntmps35
  go_wp2
  exact bodyPost_ret (v := .agg #[.int .i64 5, .bool m.op, .int .u8 m.low, .int .u8 m.high, .int .u8 (v % 16), .bool m.mode]) (by simp [results, Tryz.results35, go_sem]) rfl ⟨rfl, by repeat (first | with_reducible exact Kept.refl _ | with_reducible refine Kept.alloc ?_ _)⟩
set_option maxRecDepth 100000 in
theorem rwr54 (m : Mp) (a v : Int) (w : World) (a0 : 0 ≤ a) (a1 : a ≤ 65535) (v0 : 0 ≤ v) (v1 : v ≤ 255) (ha : 24576 ≤ a ∧ a < 32768) :
    Calls Tryz.prog 35 #[.agg #[.int .i64 5, .bool m.op, .int .u8 m.low, .int .u8 m.high, .int .u8 m.ram, .bool m.mode], .int .u16 a, .int .u8 v] w fun e w' => e = .returned (.agg #[.int .i64 5, .bool m.op, .int .u8 m.low, .int .u8 m.high, .int .u8 m.ram, .bool m.mode]) ∧ Kept w w' := by
  have f0 : ¬ (a < 8192) := by omega
  have g0 : (8192 ≤ a) := by omega
  have d0 : decide (a < 8192) = false := decide_eq_false f0
  have q0 : decide (8192 ≤ a) = true := decide_eq_true g0
  have f1 : ¬ (a < 12288) := by omega
  have g1 : (12288 ≤ a) := by omega
  have d1 : decide (a < 12288) = false := decide_eq_false f1
  have q1 : decide (12288 ≤ a) = true := decide_eq_true g1
  have f2 : ¬ (a < 16384) := by omega
  have g2 : (16384 ≤ a) := by omega
  have d2 : decide (a < 16384) = false := decide_eq_false f2
  have q2 : decide (16384 ≤ a) = true := decide_eq_true g2
  have f3 : ¬ (a < 24576) := by omega
  have g3 : (24576 ≤ a) := by omega
  have d3 : decide (a < 24576) = false := decide_eq_false f3
  have q3 : decide (24576 ≤ a) = true := decide_eq_true g3
  have f4 : (a < 32768) := by omega
  have g4 : ¬ (32768 ≤ a) := by omega
  have d4 : decide (a < 32768) = true := decide_eq_true f4
  have q4 : decide (32768 ≤ a) = false := decide_eq_false g4
  have wa : IntKind.i64.wrap a = a := by rw [IntKind.wrap_i64]; omega
  have wv : IntKind.i64.wrap v = v := by rw [IntKind.wrap_i64]; omega
  have t16 : Int.tmod v 16 = v % 16 := Int.tmod_eq_emod_of_nonneg v0
  have t32 : Int.tmod v 32 = v % 32 := Int.tmod_eq_emod_of_nonneg v0
  have t4 : Int.tmod v 4 = v % 4 := Int.tmod_eq_emod_of_nonneg v0
  have t2 : Int.tmod v 2 = v % 2 := Int.tmod_eq_emod_of_nonneg v0
  have t128 : Int.tmod v 128 = v % 128 := Int.tmod_eq_emod_of_nonneg v0
  have b16 : IntKind.u8.wrap (v % 16) = v % 16 := by rw [IntKind.wrap_u8]; omega
  have b32 : IntKind.u8.wrap (v % 32) = v % 32 := by rw [IntKind.wrap_u8]; omega
  have b4 : IntKind.u8.wrap (v % 4) = v % 4 := by rw [IntKind.wrap_u8]; omega
  have b2 : IntKind.u8.wrap (v % 2) = v % 2 := by rw [IntKind.wrap_u8]; omega
  have b128 : IntKind.u8.wrap (v % 128) = v % 128 := by rw [IntKind.wrap_u8]; omega
  go_enter Tryz.func35, Tryz.ntmps35
  go_wp2
  exact bodyPost_ret (v := .agg #[.int .i64 5, .bool m.op, .int .u8 m.low, .int .u8 m.high, .int .u8 m.ram, .bool m.mode]) (by simp [results, Tryz.results35, go_sem]) rfl ⟨rfl, by repeat (first | with_reducible exact Kept.refl _ | with_reducible refine Kept.alloc ?_ _)⟩
set_option maxRecDepth 100000 in
theorem rwr55 (m : Mp) (a v : Int) (w : World) (a0 : 0 ≤ a) (a1 : a ≤ 65535) (v0 : 0 ≤ v) (v1 : v ≤ 255) (ha : 32768 ≤ a) :
    Calls Tryz.prog 35 #[.agg #[.int .i64 5, .bool m.op, .int .u8 m.low, .int .u8 m.high, .int .u8 m.ram, .bool m.mode], .int .u16 a, .int .u8 v] w fun e w' => e = .returned (.agg #[.int .i64 5, .bool m.op, .int .u8 m.low, .int .u8 m.high, .int .u8 m.ram, .bool m.mode]) ∧ Kept w w' := by
  have f0 : ¬ (a < 8192) := by omega
  have g0 : (8192 ≤ a) := by omega
  have d0 : decide (a < 8192) = false := decide_eq_false f0
  have q0 : decide (8192 ≤ a) = true := decide_eq_true g0
  have f1 : ¬ (a < 12288) := by omega
  have g1 : (12288 ≤ a) := by omega
  have d1 : decide (a < 12288) = false := decide_eq_false f1
  have q1 : decide (12288 ≤ a) = true := decide_eq_true g1
  have f2 : ¬ (a < 16384) := by omega
  have g2 : (16384 ≤ a) := by omega
  have d2 : decide (a < 16384) = false := decide_eq_false f2
  have q2 : decide (16384 ≤ a) = true := decide_eq_true g2
  have f3 : ¬ (a < 24576) := by omega
  have g3 : (24576 ≤ a) := by omega
  have d3 : decide (a < 24576) = false := decide_eq_false f3
  have q3 : decide (24576 ≤ a) = true := decide_eq_true g3
  have f4 : ¬ (a < 32768) := by omega
  have g4 : (32768 ≤ a) := by omega
  have d4 : decide (a < 32768) = false := decide_eq_false f4
  have q4 : decide (32768 ≤ a) = true := decide_eq_true g4
  have wa : IntKind.i64.wrap a = a := by rw [IntKind.wrap_i64]; omega
  have wv : IntKind.i64.wrap v = v := by rw [IntKind.wrap_i64]; omega
  have t16 : Int.tmod v 16 = v % 16 := Int.tmod_eq_emod_of_nonneg v0
  have t32 : Int.tmod v 32 = v % 32 := Int.tmod_eq_emod_of_nonneg v0
  have t4 : Int.tmod v 4 = v % 4 := Int.tmod_eq_emod_of_nonneg v0
  have t2 : Int.tmod v 2 = v % 2 := Int.tmod_eq_emod_of_nonneg v0
  have t128 : Int.tmod v 128 = v % 128 := Int.tmod_eq_emod_of_nonneg v0
  have b16 : IntKind.u8.wrap (v % 16) = v % 16 := by rw [IntKind.wrap_u8]; omega
  have b32 : IntKind.u8.wrap (v % 32) = v % 32 := by rw [IntKind.wrap_u8]; omega
  have b4 : IntKind.u8.wrap (v % 4) = v % 4 := by rw [IntKind.wrap_u8]; omega
  have b2 : IntKind.u8.wrap (v % 2) = v % 2 := by rw [IntKind.wrap_u8]; omega
  have b128 : IntKind.u8.wrap (v % 128) = v % 128 := by rw [IntKind.wrap_u8]; omega
  go_enter Tryz.func35, Tryz.ntmps35
  go_wp2
  exact bodyPost_ret (v := .agg #[.int .i64 5, .bool m.op, .int .u8 m.low, .int .u8 m.high, .int .u8 m.ram, .bool m.mode]) (by simp [results, Tryz.results35, go_sem]) rfl ⟨rfl, by repeat (first | with_reducible exact Kept.refl _ | with_reducible refine Kept.alloc ?_ _)⟩
end Go.Proofs.YtfmddnekooojkaaGreatDoor
namespace Go.Proofs.YtfmddnekooojkaaGreatDoor
open Go.RowKit
set_option linter.unusedVariables false
set_option linter.unusedSimpArgs false

set_option maxRecDepth 100000 in
theorem rwr00 (m : Mp) (a v : Int) (w : World) (a0 : 0 ≤ a) (a1 : a ≤ 65535) (v0 : 0 ≤ v) (v1 : v ≤ 255) (ha : a < 8192) (n1 : m.kind ≠ 1) (n3 : m.kind ≠ 3) (n5 : m.kind ≠ 5) :
    Calls Tryz.prog 35 #[.agg #[.int .i64 m.kind, .bool m.op, .int .u8 m.low, .int .u8 m.high, .int .u8 m.ram, .bool m.mode], .int .u16 a, .int .u8 v] w fun e w' => e = .returned (.agg #[.int .i64 m.kind, .bool m.op, .int .u8 m.low, .int .u8 m.high, .int .u8 m.ram, .bool m.mode]) ∧ Kept w w' := by
  have f0 : (a < 8192) := by omega
  have g0 : ¬ (8192 ≤ a) := by omega
  have d0 : decide (a < 8192) = true := decide_eq_true f0
  have q0 : decide (8192 ≤ a) = false := decide_eq_false g0
  have f1 : (a < 12288) := by omega
  have g1 : ¬ (12288 ≤ a) := by omega
  have d1 : decide (a < 12288) = true := decide_eq_true f1
  have q1 : decide (12288 ≤ a) = false := decide_eq_false g1
  have f2 : (a < 16384) := by omega
  have g2 : ¬ (16384 ≤ a) := by omega
  have d2 : decide (a < 16384) = true := decide_eq_true f2
  have q2 : decide (16384 ≤ a) = false := decide_eq_false g2
  have f3 : (a < 24576) := by omega
  have g3 : ¬ (24576 ≤ a) := by omega
  have d3 : decide (a < 24576) = true := decide_eq_true f3
  have q3 : decide (24576 ≤ a) = false := decide_eq_false g3
  have f4 : (a < 32768) := by omega
  have g4 : ¬ (32768 ≤ a) := by omega
  have d4 : decide (a < 32768) = true := decide_eq_true f4
  have q4 : decide (32768 ≤ a) = false := decide_eq_false g4
  have b1 : (m.kind == 1) = false := by simpa using n1
  have b3 : (m.kind == 3) = false := by simpa using n3
  have b5 : (m.kind == 5) = false := by simpa using n5
  have wa : IntKind.i64.wrap a = a := by rw [IntKind.wrap_i64]; omega
  have wv : IntKind.i64.wrap v = v := by rw [IntKind.wrap_i64]; omega
  have t16 : Int.tmod v 16 = v % 16 := Int.tmod_eq_emod_of_nonneg v0
  have t32 : Int.tmod v 32 = v % 32 := Int.tmod_eq_emod_of_nonneg v0
  have t4 : Int.tmod v 4 = v % 4 := Int.tmod_eq_emod_of_nonneg v0
  have t2 : Int.tmod v 2 = v % 2 := Int.tmod_eq_emod_of_nonneg v0
  have t128 : Int.tmod v 128 = v % 128 := Int.tmod_eq_emod_of_nonneg v0
  have b16 : IntKind.u8.wrap (v % 16) = v % 16 := by rw [IntKind.wrap_u8]; omega
  have b32 : IntKind.u8.wrap (v % 32) = v % 32 := by rw [IntKind.wrap_u8]; omega
  have b4 : IntKind.u8.wrap (v % 4) = v % 4 := by rw [IntKind.wrap_u8]; omega
  have b2 : IntKind.u8.wrap (v % 2) = v % 2 := by rw [IntKind.wrap_u8]; omega
  have b128 : IntKind.u8.wrap (v % 128) = v % 128 := by rw [IntKind.wrap_u8]; omega
  go_enter Tryz.func35, Tryz.ntmps35
  go_wp2
  exact bodyPost_ret (v := .agg #[.int .i64 m.kind, .bool m.op, .int .u8 m.low, .int .u8 m.high, .int .u8 m.ram, .bool m.mode]) (by simp [results, Tryz.results35, go_sem]) rfl ⟨rfl, by repeat (first | with_reducible exact Kept.refl _ | with_reducible refine Kept.alloc ?_ _)⟩
set_option maxRecDepth 100000 in
theorem rwr01 (m : Mp) (a v : Int) (w : World) (a0 : 0 ≤ a) (a1 : a ≤ 65535) (v0 : 0 ≤ v) (v1 : v ≤ 255) (ha : 8192 ≤ a ∧ a < 12288) (n1 : m.kind ≠ 1) (n3 : m.kind ≠ 3) (n5 : m.kind ≠ 5) :
    Calls Tryz.prog 35 #[.agg #[.int .i64 m.kind, .bool m.op, .int .u8 m.low, .int .u8 m.high, .int .u8 m.ram, .bool m.mode], .int .u16 a, .int .u8 v] w fun e w' => e = .returned (.agg #[.int .i64 m.kind, .bool m.op, .int .u8 m.low, .int .u8 m.high, .int .u8 m.ram, .bool m.mode]) ∧ Kept w w' := by
  have f0 : ¬ (a < 8192) := by omega
  have g0 : (8192 ≤ a) := by omega
  have d0 : decide (a < 8192) = false := decide_eq_false f0
  have q0 : decide (8192 ≤ a) = true := decide_eq_true g0
  have f1 : (a < 12288) := by omega
  have g1 : ¬ (12288 ≤ a) := by omega
  have d1 : decide (a < 12288) = true := decide_eq_true f1
  have q1 : decide (12288 ≤ a) = false := decide_eq_false g1
  have f2 : (a < 16384) := by omega
  have g2 : ¬ (16384 ≤ a) := by omega
  have d2 : decide (a < 16384) = true := decide_eq_true f2
  have q2 : decide (16384 ≤ a) = false := decide_eq_false g2
  have f3 : (a < 24576) := by omega
  have g3 : ¬ (24576 ≤ a) := by omega
  have d3 : decide (a < 24576) = true := decide_eq_true f3
  have q3 : decide (24576 ≤ a) = false := decide_eq_false g3
  have f4 : (a < 32768) := by omega
  have g4 : ¬ (32768 ≤ a) := by omega
  have d4 : decide (a < 32768) = true := decide_eq_true f4
  have q4 : decide (32768 ≤ a) = false := decide_eq_false g4
  have b1 : (m.kind == 1) = false := by simpa using n1
  have b3 : (m.kind == 3) = false := by simpa using n3
  have b5 : (m.kind == 5) = false := by simpa using n5
  have wa : IntKind.i64.wrap a = a := by rw [IntKind.wrap_i64]; omega
  have wv : IntKind.i64.wrap v = v := by rw [IntKind.wrap_i64]; omega
  have t16 : Int.tmod v 16 = v % 16 := Int.tmod_eq_emod_of_nonneg v0
  have t32 : Int.tmod v 32 = v % 32 := Int.tmod_eq_emod_of_nonneg v0
  have t4 : Int.tmod v 4 = v % 4 := Int.tmod_eq_emod_of_nonneg v0
  have t2 : Int.tmod v 2 = v % 2 := Int.tmod_eq_emod_of_nonneg v0
  have t128 : Int.tmod v 128 = v % 128 := Int.tmod_eq_emod_of_nonneg v0
  have b16 : IntKind.u8.wrap (v % 16) = v % 16 := by rw [IntKind.wrap_u8]; omega
  have b32 : IntKind.u8.wrap (v % 32) = v % 32 := by rw [IntKind.wrap_u8]; omega
  have b4 : IntKind.u8.wrap (v % 4) = v % 4 := by rw [IntKind.wrap_u8]; omega
  have b2 : IntKind.u8.wrap (v % 2) = v % 2 := by rw [IntKind.wrap_u8]; omega
  have b128 : IntKind.u8.wrap (v % 128) = v % 128 := by rw [IntKind.wrap_u8]; omega
  go_enter Tryz.func35, Tryz.ntmps35
  go_wp2
  exact bodyPost_ret (v := .agg #[.int .i64 m.kind, .bool m.op, .int .u8 m.low, .int .u8 m.high, .int .u8 m.ram, .bool m.mode]) (by simp [results, Tryz.results35, go_sem]) rfl ⟨rfl, by repeat (first | with_reducible exact Kept.refl _ | with_reducible refine Kept.alloc ?_ _)⟩
set_option maxRecDepth 100000 in
theorem rwr02 (m : Mp) (a v : Int) (w : World) (a0 : 0 ≤ a) (a1 : a ≤ 65535) (v0 : 0 ≤ v) (v1 : v ≤ 255) (ha : 12288 ≤ a ∧ a < 16384) (n1 : m.kind ≠ 1) (n3 : m.kind ≠ 3) (n5 : m.kind ≠ 5) :
    Calls Tryz.prog 35 #[.agg #[.int .i64 m.kind, .bool m.op, .int .u8 m.low, .int .u8 m.high, .int .u8 m.ram, .bool m.mode], .int .u16 a, .int .u8 v] w fun e w' => e = .returned (.agg #[.int .i64 m.kind, .bool m.op, .int .u8 m.low, .int .u8 m.high, .int .u8 m.ram, .bool m.mode]) ∧ Kept w w' := by
  have f0 : ¬ (a < 8192) := by omega
  have g0 : (8192 ≤ a) := by omega
  have d0 : decide (a < 8192) = false := decide_eq_false f0
  have q0 : decide (8192 ≤ a) = true := decide_eq_true g0
  have f1 : ¬ (a < 12288) := by omega
  have g1 : (12288 ≤ a) := by omega
  have d1 : decide (a < 12288) = false := decide_eq_false f1
  have q1 : decide (12288 ≤ a) = true := decide_eq_true g1
  have f2 : (a < 16384) := by omega
  have g2 : ¬ (16384 ≤ a) := by omega
  have d2 : decide (a < 16384) = true := decide_eq_true f2
  have q2 : decide (16384 ≤ a) = false := decide_eq_false g2
  have f3 : (a < 24576) := by omega
  have g3 : ¬ (24576 ≤ a) := by omega
  have d3 : decide (a < 24576) = true := decide_eq_true f3
  have q3 : decide (24576 ≤ a) = false := decide_eq_false g3
  have f4 : (a < 32768) := by omega
  have g4 : ¬ (32768 ≤ a) := by omega
  have d4 : decide (a < 32768) = true := decide_eq_true f4
  have q4 : decide (32768 ≤ a) = false := decide_eq_false g4
  have b1 : (m.kind == 1) = false := by simpa using n1
  have b3 : (m.kind == 3) = false := by simpa using n3
  have b5 : (m.kind == 5) = false := by simpa using n5
  have wa : IntKind.i64.wrap a = a := by rw [IntKind.wrap_i64]; omega
  have wv : IntKind.i64.wrap v = v := by rw [IntKind.wrap_i64]; omega
  have t16 : Int.tmod v 16 = v % 16 := Int.tmod_eq_emod_of_nonneg v0
  have t32 : Int.tmod v 32 = v % 32 := Int.tmod_eq_emod_of_nonneg v0
  have t4 : Int.tmod v 4 = v % 4 := Int.tmod_eq_emod_of_nonneg v0
  have t2 : Int.tmod v 2 = v % 2 := Int.tmod_eq_emod_of_nonneg v0
  have t128 : Int.tmod v 128 = v % 128 := Int.tmod_eq_emod_of_nonneg v0
  have b16 : IntKind.u8.wrap (v % 16) = v % 16 := by rw [IntKind.wrap_u8]; omega
  have b32 : IntKind.u8.wrap (v % 32) = v % 32 := by rw [IntKind.wrap_u8]; omega
  have b4 : IntKind.u8.wrap (v % 4) = v % 4 := by rw [IntKind.wrap_u8]; omega
  have b2 : IntKind.u8.wrap (v % 2) = v % 2 := by rw [IntKind.wrap_u8]; omega
  have b128 : IntKind.u8.wrap (v % 128) = v % 128 := by rw [IntKind.wrap_u8]; omega
  go_enter Tryz.func35, Tryz.ntmps35
  go_wp2
  exact bodyPost_ret (v := .agg #[.int .i64 m.kind, .bool m.op, .int .u8 m.low, .int .u8 m.high, .int .u8 m.ram, .bool m.mode]) (by simp [results, Tryz.results35, go_sem]) rfl ⟨rfl, by repeat (first | with_reducible exact Kept.refl _ | with_reducible refine Kept.alloc ?_ _)⟩
set_option maxRecDepth 100000 in
theorem rwr03 (m : Mp) (a v : Int) (w : World) (a0 : 0 ≤ a) (a1 : a ≤ 65535) (v0 : 0 ≤ v) (v1 : v ≤ 255) (ha : 16384 ≤ a ∧ a < 24576) (n1 : m.kind ≠ 1) (n3 : m.kind ≠ 3) (n5 : m.kind ≠ 5) :
    Calls Tryz.prog 35 #[.agg #[.int .i64 m.kind, .bool m.op, .int .u8 m.low, .int .u8 m.high, .int .u8 m.ram, .bool m.mode], .int .u16 a, .int .u8 v] w fun e w' => e = .returned (.agg #[.int .i64 m.kind, .bool m.op, .int .u8 m.low, .int .u8 m.high, .int .u8 m.ram, .bool m.mode]) ∧ Kept w w' := by
  have f0 : ¬ (a < 8192) := by omega
  have g0 : (8192 ≤ a) := by omega
  have d0 : decide (a < 8192) = false := decide_eq_false f0
  have q0 : decide (8192 ≤ a) = true := decide_eq_true g0
  have f1 : ¬ (a < 12288) := by omega
  have g1 : (12288 ≤ a) := by omega
  have d1 : decide (a < 12288) = false := decide_eq_false f1
  have q1 : decide (12288 ≤ a) = true := decide_eq_true g1
  have f2 : ¬ (a < 16384) := by omega
  have g2 : (16384 ≤ a) := by omega
  have d2 : decide (a < 16384) = false := decide_eq_false f2
  have q2 : decide (16384 ≤ a) = true := decide_eq_true g2
  have f3 : (a < 24576) := by omega
  have g3 : ¬ (24576 ≤ a) := by omega
  have d3 : decide (a < 24576) = true := decide_eq_true f3
  have q3 : decide (24576 ≤ a) = false := decide_eq_false g3
  have f4 : (a < 32768) := by omega
  have g4 : ¬ (32768 ≤ a) := by omega
  have d4 : decide (a < 32768) = true := decide_eq_true f4
  have q4 : decide (32768 ≤ a) = false := decide_eq_false g4
  have b1 : (m.kind == 1) = false := by simpa using n1
  have b3 : (m.kind == 3) = false := by simpa using n3
  have b5 : (m.kind == 5) = false := by simpa using n5
  have wa : IntKind.i64.wrap a = a := by rw [IntKind.wrap_i64]; omega
  have wv : IntKind.i64.wrap v = v := by rw [IntKind.wrap_i64]; omega
  have t16 : Int.tmod v 16 = v % 16 := Int.tmod_eq_emod_of_nonneg v0
  have t32 : Int.tmod v 32 = v % 32 := Int.tmod_eq_emod_of_nonneg v0
  have t4 : Int.tmod v 4 = v % 4 := Int.tmod_eq_emod_of_nonneg v0
  have t2 : Int.tmod v 2 = v % 2 := Int.tmod_eq_emod_of_nonneg v0
  have t128 : Int.tmod v 128 = v % 128 := Int.tmod_eq_emod_of_nonneg v0
  have b16 : IntKind.u8.wrap (v % 16) = v % 16 := by rw [IntKind.wrap_u8]; omega
  have b32 : IntKind.u8.wrap (v % 32) = v % 32 := by rw [IntKind.wrap_u8]; omega
  have b4 : IntKind.u8.wrap (v % 4) = v % 4 := by rw [IntKind.wrap_u8]; omega
  have b2 : IntKind.u8.wrap (v % 2) = v % 2 := by rw [IntKind.wrap_u8]; omega
  have b128 : IntKind.u8.wrap (v % 128) = v % 128 := by rw [IntKind.wrap_u8]; omega
  go_enter Tryz.func35, Tryz.ntmps35
  go_wp2
  exact bodyPost_ret (v := .agg #[.int .i64 m.kind, .bool m.op, .int .u8 m.low, .int .u8 m.high, .int .u8 m.ram, .bool m.mode]) (by simp [results, Tryz.results35, go_sem]) rfl ⟨rfl, by repeat (first | with_reducible exact Kept.refl _ | with_reducible refine Kept.alloc ?_ _)⟩
set_option maxRecDepth 100000 in
theorem rwr04 (m : Mp) (a v : Int) (w : World) (a0 : 0 ≤ a) (a1 : a ≤ 65535) (v0 : 0 ≤ v) (v1 : v ≤ 255) (ha : 24576 ≤ a ∧ a < 32768) (n1 : m.kind ≠ 1) (n3 : m.kind ≠ 3) (n5 : m.kind ≠ 5) :
    Calls Tryz.prog 35 #[.agg #[.int .i64 m.kind, .bool m.op, .int .u8 m.low, .int .u8 m.high, .int .u8 m.ram, .bool m.mode], .int .u16 a, .int .u8 v] w fun e w' => e = .returned (.agg #[.int .i64 m.kind, .bool m.op, .int .u8 m.low, .int .u8 m.high, .int .u8 m.ram, .bool m.mode]) ∧ Kept w w' := by
  have f0 : ¬ (a < 8192) := by omega
  have g0 : (8192 ≤ a) := by omega
  have d0 : decide (a < 8192) = false := decide_eq_false f0
  have q0 : decide (8192 ≤ a) = true := decide_eq_true g0
  have f1 : ¬ (a < 12288) := by omega
  have g1 : (12288 ≤ a) := by omega
  have d1 : decide (a < 12288) = false := decide_eq_false f1
  have q1 : decide (12288 ≤ a) = true := decide_eq_true g1
  have f2 : ¬ (a < 16384) := by omega
  have g2 : (16384 ≤ a) := by omega
  have d2 : decide (a < 16384) = false := decide_eq_false f2
  have q2 : decide (16384 ≤ a) = true := decide_eq_true g2
  have f3 : ¬ (a < 24576) := by omega
  have g3 : (24576 ≤ a) := by omega
  have d3 : decide (a < 24576) = false := decide_eq_false f3
  have q3 : decide (24576 ≤ a) = true := decide_eq_true g3
  have f4 : (a < 32768) := by omega
  have g4 : ¬ (32768 ≤ a) := by omega
  have d4 : decide (a < 32768) = true := decide_eq_true f4
  have q4 : decide (32768 ≤ a) = false := decide_eq_false g4
  have b1 : (m.kind == 1) = false := by simpa using n1
  have b3 : (m.kind == 3) = false := by simpa using n3
  have b5 : (m.kind == 5) = false := by simpa using n5
  have wa : IntKind.i64.wrap a = a := by rw [IntKind.wrap_i64]; omega
  have wv : IntKind.i64.wrap v = v := by rw [IntKind.wrap_i64]; omega
  have t16 : Int.tmod v 16 = v % 16 := Int.tmod_eq_emod_of_nonneg v0
  have t32 : Int.tmod v 32 = v % 32 := Int.tmod_eq_emod_of_nonneg v0
  have t4 : Int.tmod v 4 = v % 4 := Int.tmod_eq_emod_of_nonneg v0
  have t2 : Int.tmod v 2 = v % 2 := Int.tmod_eq_emod_of_nonneg v0
  have t128 : Int.tmod v 128 = v % 128 := Int.tmod_eq_emod_of_nonneg v0
  have b16 : IntKind.u8.wrap (v % 16) = v % 16 := by rw [IntKind.wrap_u8]; omega
  have b32 : IntKind.u8.wrap (v % 32) = v % 32 := by rw [IntKind.wrap_u8]; omega
  have b4 : IntKind.u8.wrap (v % 4) = v % 4 := by rw [IntKind.wrap_u8]; omega
  have b2 : IntKind.u8.wrap (v % 2) = v % 2 := by rw [IntKind.wrap_u8]; omega
  have b128 : IntKind.u8.wrap (v % 128) = v % 128 := by rw [IntKind.wrap_u8]; omega
  go_enter Tryz.func35, Tryz.ntmps35
  go_wp2
  exact bodyPost_ret (v := .agg #[.int .i64 m.kind, .bool m.op, .int .u8 m.low, .int .u8 m.high, .int .u8 m.ram, .bool m.mode]) (by simp [results, Tryz.results35, go_sem]) rfl ⟨rfl, by repeat (first | with_reducible exact Kept.refl _ | with_reducible refine Kept.alloc ?_ _)⟩
set_option maxRecDepth 100000 in
theorem rwr05 (m : Mp) (a v : Int) (w : World) (a0 : 0 ≤ a) (a1 : a ≤ 65535) (v0 : 0 ≤ v) (v1 : v ≤ 255) (ha : 32768 ≤ a) (n1 : m.kind ≠ 1) (n3 : m.kind ≠ 3) (n5 : m.kind ≠ 5) :
    Calls Tryz.prog 35 #[.agg #[.int .i64 m.kind, .bool m.op, .int .u8 m.low, .int .u8 m.high, .int .u8 m.ram, .bool m.mode], .int .u16 a, .int .u8 v] w fun e w' => e = .returned (.agg #[.int .i64 m.kind, .bool m.op, .int .u8 m.low, .int .u8 m.high, .int .u8 m.ram, .bool m.mode]) ∧ Kept w w' := by
  have f0 : ¬ (a < 8192) := by omega
  have g0 : (8192 ≤ a) := by omega
  have d0 : decide (a < 8192) = false := decide_eq_false f0
  have q0 : decide (8192 ≤ a) = true := decide_eq_true g0
  have f1 : ¬ (a < 12288) := by omega
  have g1 : (12288 ≤ a) := by omega
  have d1 : decide (a < 12288) = false := decide_eq_false f1
  have q1 : decide (12288 ≤ a) = true := decide_eq_true g1
  have f2 : ¬ (a < 16384) := by omega
  have g2 : (16384 ≤ a) := by omega
  have d2 : decide (a < 16384) = false := decide_eq_false f2
  have q2 : decide (16384 ≤ a) = true := decide_eq_true g2
  have f3 : ¬ (a < 24576) := by omega
  have g3 : (24576 ≤ a) := by omega
  have d3 : decide (a < 24576) = false := decide_eq_false f3
  have q3 : decide (24576 ≤ a) = true := decide_eq_true g3
  have f4 : ¬ (a < 32768) := by omega
  have g4 : (32768 ≤ a) := by omega
  have d4 : decide (a < 32768) = false := decide_eq_false f4
  have q4 : decide (32768 ≤ a) = true := decide_eq_true g4
  have b1 : (m.kind == 1) = false := by simpa using n1
  have b3 : (m.kind == 3) = false := by simpa using n3
  have b5 : (m.kind == 5) = false := by simpa using n5
  have wa : IntKind.i64.wrap a = a := by rw [IntKind.wrap_i64]; omega
  have wv : IntKind.i64.wrap v = v := by rw [IntKind.wrap_i64]; omega
  have t16 : Int.tmod v 16 = v % 16 := Int.tmod_eq_emod_of_nonneg v0
  have t32 : Int.tmod v 32 = v % 32 := Int.tmod_eq_emod_of_nonneg v0
  have t4 : Int.tmod v 4 = v % 4 := Int.tmod_eq_emod_of_nonneg v0
  have t2 : Int.tmod v 2 = v % 2 := Int.tmod_eq_emod_of_nonneg v0
  have t128 : Int.tmod v 128 = v % 128 := Int.tmod_eq_emod_of_nonneg v0
  have b16 : IntKind.u8.wrap (v % 16) = v % 16 := by rw [IntKind.wrap_u8]; omega
  have b32 : IntKind.u8.wrap (v % 32) = v % 32 := by rw [IntKind.wrap_u8]; omega
  have b4 : IntKind.u8.wrap (v % 4) = v % 4 := by rw [IntKind.wrap_u8]; omega
  have b2 : IntKind.u8.wrap (v % 2) = v % 2 := by rw [IntKind.wrap_u8]; omega
  have b128 : IntKind.u8.wrap (v % 128) = v % 128 := by rw [IntKind.wrap_u8]; omega
  go_enter Tryz.func35, Tryz.ntmps35
  go_wp2
  exact bodyPost_ret (v := .agg #[.int .i64 m.kind, .bool m.op, .int .u8 m.low, .int .u8 m.high, .int .u8 m.ram, .bool m.mode]) (by simp [results, Tryz.results35, go_sem]) rfl ⟨rfl, by repeat (first | with_reducible exact Kept.refl _ | with_reducible refine Kept.alloc ?_ _)⟩
end Go.Proofs.YtfmddnekooojkaaGreatDoor
