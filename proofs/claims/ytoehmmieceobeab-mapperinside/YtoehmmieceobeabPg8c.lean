/- What write of the program's mapper comes to. -/
import Derived.Test.YtoehmmieceobeabPg8b
namespace Go.Proofs.Ytoehmmieceobeab
open Go.RowKit
set_option linter.unusedVariables false
set_option linter.unusedSimpArgs false

set_option maxRecDepth 100000 in
theorem pwr10 (m : Mp) (a v : Int) (w : World) (a0 : 0 ≤ a) (a1 : a ≤ 65535) (v0 : 0 ≤ v) (v1 : v ≤ 255) (ha : a < 8192) :
    Calls Try.prog 32 #[mV m, .int .u16 a, .int .u8 v] w fun e w' => e = .returned (.agg #[.int .i64 m.kind, .bool (v % 16 == 10), .int .u8 m.low, .int .u8 m.high, .int .u8 m.ram, .bool m.mode]) ∧ Kept w w' := by
  obtain ⟨x1, x2, x3, x4, x5⟩ := ands v v0 v1
  have C := hid (fun u => opens_any v u v0 v1)
  have d0 : decide (a ≤ 8191) = true := decide_eq_true (by omega)
  have d1 : decide (a ≤ 12287) = true := decide_eq_true (by omega)
  have d2 : decide (a ≤ 16383) = true := decide_eq_true (by omega)
  have d3 : decide (a ≤ 24575) = true := decide_eq_true (by omega)
  have d4 : decide (a ≤ 32767) = true := decide_eq_true (by omega)
  clear ha
  go_enter Try.func32, Try.ntmps32
  go_wp2_with ((go_at_call 35; refine (C.out _).mono ?_; rintro e v1 ⟨rfl, rfl⟩))
  exact bodyPost_ret (v := .agg #[.int .i64 m.kind, .bool (v % 16 == 10), .int .u8 m.low, .int .u8 m.high, .int .u8 m.ram, .bool m.mode]) (by simp [results, Try.results32, go_sem]) rfl ⟨rfl, by repeat (first | with_reducible exact Kept.refl _ | with_reducible refine Kept.alloc ?_ _ | with_reducible refine Kept.setCell8 ?_ (Nat.le_refl _) _ _ | with_reducible refine Kept.setCell8 ?_ (Nat.le_succ _) _ _)⟩
set_option maxRecDepth 100000 in
theorem pwr11 (m : Mp) (a v : Int) (w : World) (a0 : 0 ≤ a) (a1 : a ≤ 65535) (v0 : 0 ≤ v) (v1 : v ≤ 255) (ha : 8192 ≤ a ∧ a < 12288) :
    Calls Try.prog 32 #[mV m, .int .u16 a, .int .u8 v] w fun e w' => e = .returned (.agg #[.int .i64 m.kind, .bool m.op, .int .u8 (v % 32), .int .u8 m.high, .int .u8 m.ram, .bool m.mode]) ∧ Kept w w' := by
  obtain ⟨x1, x2, x3, x4, x5⟩ := ands v v0 v1
  have C := hid (fun u => opens_any v u v0 v1)
  have d0 : decide (a ≤ 8191) = false := decide_eq_false (by omega)
  have d1 : decide (a ≤ 12287) = true := decide_eq_true (by omega)
  have d2 : decide (a ≤ 16383) = true := decide_eq_true (by omega)
  have d3 : decide (a ≤ 24575) = true := decide_eq_true (by omega)
  have d4 : decide (a ≤ 32767) = true := decide_eq_true (by omega)
  clear ha
  go_enter Try.func32, Try.ntmps32
  go_wp2_with ((go_at_call 35; refine (C.out _).mono ?_; rintro e v1 ⟨rfl, rfl⟩))
  exact bodyPost_ret (v := .agg #[.int .i64 m.kind, .bool m.op, .int .u8 (v % 32), .int .u8 m.high, .int .u8 m.ram, .bool m.mode]) (by simp [results, Try.results32, go_sem]) rfl ⟨rfl, by repeat (first | with_reducible exact Kept.refl _ | with_reducible refine Kept.alloc ?_ _ | with_reducible refine Kept.setCell8 ?_ (Nat.le_refl _) _ _ | with_reducible refine Kept.setCell8 ?_ (Nat.le_succ _) _ _)⟩
set_option maxRecDepth 100000 in
theorem pwr12 (m : Mp) (a v : Int) (w : World) (a0 : 0 ≤ a) (a1 : a ≤ 65535) (v0 : 0 ≤ v) (v1 : v ≤ 255) (ha : 12288 ≤ a ∧ a < 16384) :
    Calls Try.prog 32 #[mV m, .int .u16 a, .int .u8 v] w fun e w' => e = .returned (.agg #[.int .i64 m.kind, .bool m.op, .int .u8 (v % 32), .int .u8 m.high, .int .u8 m.ram, .bool m.mode]) ∧ Kept w w' := by
  obtain ⟨x1, x2, x3, x4, x5⟩ := ands v v0 v1
  have C := hid (fun u => opens_any v u v0 v1)
  have d0 : decide (a ≤ 8191) = false := decide_eq_false (by omega)
  have d1 : decide (a ≤ 12287) = false := decide_eq_false (by omega)
  have d2 : decide (a ≤ 16383) = true := decide_eq_true (by omega)
  have d3 : decide (a ≤ 24575) = true := decide_eq_true (by omega)
  have d4 : decide (a ≤ 32767) = true := decide_eq_true (by omega)
  clear ha
  go_enter Try.func32, Try.ntmps32
  go_wp2_with ((go_at_call 35; refine (C.out _).mono ?_; rintro e v1 ⟨rfl, rfl⟩))
  exact bodyPost_ret (v := .agg #[.int .i64 m.kind, .bool m.op, .int .u8 (v % 32), .int .u8 m.high, .int .u8 m.ram, .bool m.mode]) (by simp [results, Try.results32, go_sem]) rfl ⟨rfl, by repeat (first | with_reducible exact Kept.refl _ | with_reducible refine Kept.alloc ?_ _ | with_reducible refine Kept.setCell8 ?_ (Nat.le_refl _) _ _ | with_reducible refine Kept.setCell8 ?_ (Nat.le_succ _) _ _)⟩
set_option maxRecDepth 100000 in
theorem pwr13 (m : Mp) (a v : Int) (w : World) (a0 : 0 ≤ a) (a1 : a ≤ 65535) (v0 : 0 ≤ v) (v1 : v ≤ 255) (ha : 16384 ≤ a ∧ a < 24576) :
    Calls Try.prog 32 #[mV m, .int .u16 a, .int .u8 v] w fun e w' => e = .returned (.agg #[.int .i64 m.kind, .bool m.op, .int .u8 m.low, .int .u8 (v % 4), .int .u8 m.ram, .bool m.mode]) ∧ Kept w w' := by
  obtain ⟨x1, x2, x3, x4, x5⟩ := ands v v0 v1
  have C := hid (fun u => opens_any v u v0 v1)
  have d0 : decide (a ≤ 8191) = false := decide_eq_false (by omega)
  have d1 : decide (a ≤ 12287) = false := decide_eq_false (by omega)
  have d2 : decide (a ≤ 16383) = false := decide_eq_false (by omega)
  have d3 : decide (a ≤ 24575) = true := decide_eq_true (by omega)
  have d4 : decide (a ≤ 32767) = true := decide_eq_true (by omega)
  clear ha
  go_enter Try.func32, Try.ntmps32
  go_wp2_with ((go_at_call 35; refine (C.out _).mono ?_; rintro e v1 ⟨rfl, rfl⟩))
  exact bodyPost_ret (v := .agg #[.int .i64 m.kind, .bool m.op, .int .u8 m.low, .int .u8 (v % 4), .int .u8 m.ram, .bool m.mode]) (by simp [results, Try.results32, go_sem]) rfl ⟨rfl, by repeat (first | with_reducible exact Kept.refl _ | with_reducible refine Kept.alloc ?_ _ | with_reducible refine Kept.setCell8 ?_ (Nat.le_refl _) _ _ | with_reducible refine Kept.setCell8 ?_ (Nat.le_succ _) _ _)⟩
set_option maxRecDepth 100000 in
theorem pwr14 (m : Mp) (a v : Int) (w : World) (a0 : 0 ≤ a) (a1 : a ≤ 65535) (v0 : 0 ≤ v) (v1 : v ≤ 255) (ha : 24576 ≤ a ∧ a < 32768) :
    Calls Try.prog 32 #[mV m, .int .u16 a, .int .u8 v] w fun e w' => e = .returned (.agg #[.int .i64 m.kind, .bool m.op, .int .u8 m.low, .int .u8 m.high, .int .u8 m.ram, .bool (v % 2 == 1)]) ∧ Kept w w' := by
  obtain ⟨x1, x2, x3, x4, x5⟩ := ands v v0 v1
  have C := hid (fun u => opens_any v u v0 v1)
  have d0 : decide (a ≤ 8191) = false := decide_eq_false (by omega)
  have d1 : decide (a ≤ 12287) = false := decide_eq_false (by omega)
  have d2 : decide (a ≤ 16383) = false := decide_eq_false (by omega)
  have d3 : decide (a ≤ 24575) = false := decide_eq_false (by omega)
  have d4 : decide (a ≤ 32767) = true := decide_eq_true (by omega)
  clear ha
  go_enter Try.func32, Try.ntmps32
  go_wp2_with ((go_at_call 35; refine (C.out _).mono ?_; rintro e v1 ⟨rfl, rfl⟩))
  exact bodyPost_ret (v := .agg #[.int .i64 m.kind, .bool m.op, .int .u8 m.low, .int .u8 m.high, .int .u8 m.ram, .bool (v % 2 == 1)]) (by simp [results, Try.results32, go_sem]) rfl ⟨rfl, by repeat (first | with_reducible exact Kept.refl _ | with_reducible refine Kept.alloc ?_ _ | with_reducible refine Kept.setCell8 ?_ (Nat.le_refl _) _ _ | with_reducible refine Kept.setCell8 ?_ (Nat.le_succ _) _ _)⟩
set_option maxRecDepth 100000 in
theorem pwr15 (m : Mp) (a v : Int) (w : World) (a0 : 0 ≤ a) (a1 : a ≤ 65535) (v0 : 0 ≤ v) (v1 : v ≤ 255) (ha : 32768 ≤ a) :
    Calls Try.prog 32 #[mV m, .int .u16 a, .int .u8 v] w fun e w' => e = .returned (.agg #[.int .i64 m.kind, .bool m.op, .int .u8 m.low, .int .u8 m.high, .int .u8 m.ram, .bool m.mode]) ∧ Kept w w' := by
  obtain ⟨x1, x2, x3, x4, x5⟩ := ands v v0 v1
  have C := hid (fun u => opens_any v u v0 v1)
  have d0 : decide (a ≤ 8191) = false := decide_eq_false (by omega)
  have d1 : decide (a ≤ 12287) = false := decide_eq_false (by omega)
  have d2 : decide (a ≤ 16383) = false := decide_eq_false (by omega)
  have d3 : decide (a ≤ 24575) = false := decide_eq_false (by omega)
  have d4 : decide (a ≤ 32767) = false := decide_eq_false (by omega)
  clear ha
  go_enter Try.func32, Try.ntmps32
  go_wp2_with ((go_at_call 35; refine (C.out _).mono ?_; rintro e v1 ⟨rfl, rfl⟩))
  exact bodyPost_ret (v := .agg #[.int .i64 m.kind, .bool m.op, .int .u8 m.low, .int .u8 m.high, .int .u8 m.ram, .bool m.mode]) (by simp [results, Try.results32, go_sem]) rfl ⟨rfl, by repeat (first | with_reducible exact Kept.refl _ | with_reducible refine Kept.alloc ?_ _ | with_reducible refine Kept.setCell8 ?_ (Nat.le_refl _) _ _ | with_reducible refine Kept.setCell8 ?_ (Nat.le_succ _) _ _)⟩
set_option maxRecDepth 100000 in
theorem pwr30 (m : Mp) (a v : Int) (w : World) (a0 : 0 ≤ a) (a1 : a ≤ 65535) (v0 : 0 ≤ v) (v1 : v ≤ 255) (ha : a < 8192) :
    Calls Try.prog 40 #[mV m, .int .u16 a, .int .u8 v] w fun e w' => e = .returned (.agg #[.int .i64 m.kind, .bool (v % 16 == 10), .int .u8 m.low, .int .u8 m.high, .int .u8 m.ram, .bool m.mode]) ∧ Kept w w' := by
  obtain ⟨x1, x2, x3, x4, x5⟩ := ands v v0 v1
  have C := hid (fun u => opens_any v u v0 v1)
  have d0 : decide (a ≤ 8191) = true := decide_eq_true (by omega)
  have d1 : decide (a ≤ 12287) = true := decide_eq_true (by omega)
  have d2 : decide (a ≤ 16383) = true := decide_eq_true (by omega)
  have d3 : decide (a ≤ 24575) = true := decide_eq_true (by omega)
  have d4 : decide (a ≤ 32767) = true := decide_eq_true (by omega)
  clear ha
  go_enter Try.func40, Try.ntmps40
  go_wp2_with ((go_at_call 35; refine (C.out _).mono ?_; rintro e v1 ⟨rfl, rfl⟩))
  exact bodyPost_ret (v := .agg #[.int .i64 m.kind, .bool (v % 16 == 10), .int .u8 m.low, .int .u8 m.high, .int .u8 m.ram, .bool m.mode]) (by simp [results, Try.results40, go_sem]) rfl ⟨rfl, by repeat (first | with_reducible exact Kept.refl _ | with_reducible refine Kept.alloc ?_ _ | with_reducible refine Kept.setCell8 ?_ (Nat.le_refl _) _ _ | with_reducible refine Kept.setCell8 ?_ (Nat.le_succ _) _ _)⟩
set_option maxRecDepth 100000 in
theorem pwr31 (m : Mp) (a v : Int) (w : World) (a0 : 0 ≤ a) (a1 : a ≤ 65535) (v0 : 0 ≤ v) (v1 : v ≤ 255) (ha : 8192 ≤ a ∧ a < 12288) :
    Calls Try.prog 40 #[mV m, .int .u16 a, .int .u8 v] w fun e w' => e = .returned (.agg #[.int .i64 m.kind, .bool m.op, .int .u8 (v % 128), .int .u8 m.high, .int .u8 m.ram, .bool m.mode]) ∧ Kept w w' := by
  obtain ⟨x1, x2, x3, x4, x5⟩ := ands v v0 v1
  have C := hid (fun u => opens_any v u v0 v1)
  have d0 : decide (a ≤ 8191) = false := decide_eq_false (by omega)
  have d1 : decide (a ≤ 12287) = true := decide_eq_true (by omega)
  have d2 : decide (a ≤ 16383) = true := decide_eq_true (by omega)
  have d3 : decide (a ≤ 24575) = true := decide_eq_true (by omega)
  have d4 : decide (a ≤ 32767) = true := decide_eq_true (by omega)
  clear ha
  go_enter Try.func40, Try.ntmps40
  go_wp2_with ((go_at_call 35; refine (C.out _).mono ?_; rintro e v1 ⟨rfl, rfl⟩))
  exact bodyPost_ret (v := .agg #[.int .i64 m.kind, .bool m.op, .int .u8 (v % 128), .int .u8 m.high, .int .u8 m.ram, .bool m.mode]) (by simp [results, Try.results40, go_sem]) rfl ⟨rfl, by repeat (first | with_reducible exact Kept.refl _ | with_reducible refine Kept.alloc ?_ _ | with_reducible refine Kept.setCell8 ?_ (Nat.le_refl _) _ _ | with_reducible refine Kept.setCell8 ?_ (Nat.le_succ _) _ _)⟩
set_option maxRecDepth 100000 in
theorem pwr32 (m : Mp) (a v : Int) (w : World) (a0 : 0 ≤ a) (a1 : a ≤ 65535) (v0 : 0 ≤ v) (v1 : v ≤ 255) (ha : 12288 ≤ a ∧ a < 16384) :
    Calls Try.prog 40 #[mV m, .int .u16 a, .int .u8 v] w fun e w' => e = .returned (.agg #[.int .i64 m.kind, .bool m.op, .int .u8 (v % 128), .int .u8 m.high, .int .u8 m.ram, .bool m.mode]) ∧ Kept w w' := by
  obtain ⟨x1, x2, x3, x4, x5⟩ := ands v v0 v1
  have C := hid (fun u => opens_any v u v0 v1)
  have d0 : decide (a ≤ 8191) = false := decide_eq_false (by omega)
  have d1 : decide (a ≤ 12287) = false := decide_eq_false (by omega)
  have d2 : decide (a ≤ 16383) = true := decide_eq_true (by omega)
  have d3 : decide (a ≤ 24575) = true := decide_eq_true (by omega)
  have d4 : decide (a ≤ 32767) = true := decide_eq_true (by omega)
  clear ha
  go_enter Try.func40, Try.ntmps40
  go_wp2_with ((go_at_call 35; refine (C.out _).mono ?_; rintro e v1 ⟨rfl, rfl⟩))
  exact bodyPost_ret (v := .agg #[.int .i64 m.kind, .bool m.op, .int .u8 (v % 128), .int .u8 m.high, .int .u8 m.ram, .bool m.mode]) (by simp [results, Try.results40, go_sem]) rfl ⟨rfl, by repeat (first | with_reducible exact Kept.refl _ | with_reducible refine Kept.alloc ?_ _ | with_reducible refine Kept.setCell8 ?_ (Nat.le_refl _) _ _ | with_reducible refine Kept.setCell8 ?_ (Nat.le_succ _) _ _)⟩
set_option maxRecDepth 100000 in
theorem pwr33 (m : Mp) (a v : Int) (w : World) (a0 : 0 ≤ a) (a1 : a ≤ 65535) (v0 : 0 ≤ v) (v1 : v ≤ 255) (ha : 16384 ≤ a ∧ a < 24576) :
    Calls Try.prog 40 #[mV m, .int .u16 a, .int .u8 v] w fun e w' => e = .returned (.agg #[.int .i64 m.kind, .bool m.op, .int .u8 m.low, .int .u8 m.high, .int .u8 (v % 16), .bool m.mode]) ∧ Kept w w' := by
  obtain ⟨x1, x2, x3, x4, x5⟩ := ands v v0 v1
  have C := hid (fun u => opens_any v u v0 v1)
  have d0 : decide (a ≤ 8191) = false := decide_eq_false (by omega)
  have d1 : decide (a ≤ 12287) = false := decide_eq_false (by omega)
  have d2 : decide (a ≤ 16383) = false := decide_eq_false (by omega)
  have d3 : decide (a ≤ 24575) = true := decide_eq_true (by omega)
  have d4 : decide (a ≤ 32767) = true := decide_eq_true (by omega)
  clear ha
  go_enter Try.func40, Try.ntmps40
  go_wp2_with ((go_at_call 35; refine (C.out _).mono ?_; rintro e v1 ⟨rfl, rfl⟩))
  exact bodyPost_ret (v := .agg #[.int .i64 m.kind, .bool m.op, .int .u8 m.low, .int .u8 m.high, .int .u8 (v % 16), .bool m.mode]) (by simp [results, Try.results40, go_sem]) rfl ⟨rfl, by repeat (first | with_reducible exact Kept.refl _ | with_reducible refine Kept.alloc ?_ _ | with_reducible refine Kept.setCell8 ?_ (Nat.le_refl _) _ _ | with_reducible refine Kept.setCell8 ?_ (Nat.le_succ _) _ _)⟩
set_option maxRecDepth 100000 in
theorem pwr34 (m : Mp) (a v : Int) (w : World) (a0 : 0 ≤ a) (a1 : a ≤ 65535) (v0 : 0 ≤ v) (v1 : v ≤ 255) (ha : 24576 ≤ a ∧ a < 32768) :
    Calls Try.prog 40 #[mV m, .int .u16 a, .int .u8 v] w fun e w' => e = .returned (.agg #[.int .i64 m.kind, .bool m.op, .int .u8 m.low, .int .u8 m.high, .int .u8 m.ram, .bool m.mode]) ∧ Kept w w' := by
  obtain ⟨x1, x2, x3, x4, x5⟩ := ands v v0 v1
  have C := hid (fun u => opens_any v u v0 v1)
  have d0 : decide (a ≤ 8191) = false := decide_eq_false (by omega)
  have d1 : decide (a ≤ 12287) = false := decide_eq_false (by omega)
  have d2 : decide (a ≤ 16383) = false := decide_eq_false (by omega)
  have d3 : decide (a ≤ 24575) = false := decide_eq_false (by omega)
  have d4 : decide (a ≤ 32767) = true := decide_eq_true (by omega)
  clear ha
  go_enter Try.func40, Try.ntmps40
  go_wp2_with ((go_at_call 35; refine (C.out _).mono ?_; rintro e v1 ⟨rfl, rfl⟩))
  exact bodyPost_ret (v := .agg #[.int .i64 m.kind, .bool m.op, .int .u8 m.low, .int .u8 m.high, .int .u8 m.ram, .bool m.mode]) (by simp [results, Try.results40, go_sem]) rfl ⟨rfl, by repeat (first | with_reducible exact Kept.refl _ | with_reducible refine Kept.alloc ?_ _ | with_reducible refine Kept.setCell8 ?_ (Nat.le_refl _) _ _ | with_reducible refine Kept.setCell8 ?_ (Nat.le_succ _) _ _)⟩
set_option maxRecDepth 100000 in
theorem pwr35 (m : Mp) (a v : Int) (w : World) (a0 : 0 ≤ a) (a1 : a ≤ 65535) (v0 : 0 ≤ v) (v1 : v ≤ 255) (ha : 32768 ≤ a) :
    Calls Try.prog 40 #[mV m, .int .u16 a, .int .u8 v] w fun e w' => e = .returned (.agg #[.int .i64 m.kind, .bool m.op, .int .u8 m.low, .int .u8 m.high, .int .u8 m.ram, .bool m.mode]) ∧ Kept w w' := by
  obtain ⟨x1, x2, x3, x4, x5⟩ := ands v v0 v1
  have C := hid (fun u => opens_any v u v0 v1)
  have d0 : decide (a ≤ 8191) = false := decide_eq_false (by omega)
  have d1 : decide (a ≤ 12287) = false := decide_eq_false (by omega)
  have d2 : decide (a ≤ 16383) = false := decide_eq_false (by omega)
  have d3 : decide (a ≤ 24575) = false := decide_eq_false (by omega)
  have d4 : decide (a ≤ 32767) = false := decide_eq_false (by omega)
  clear ha
  go_enter Try.func40, Try.ntmps40
  go_wp2_with ((go_at_call 35; refine (C.out _).mono ?_; rintro e v1 ⟨rfl, rfl⟩))
  exact bodyPost_ret (v := .agg #[.int .i64 m.kind, .bool m.op, .int .u8 m.low, .int .u8 m.high, .int .u8 m.ram, .bool m.mode]) (by simp [results, Try.results40, go_sem]) rfl ⟨rfl, by repeat (first | with_reducible exact Kept.refl _ | with_reducible refine Kept.alloc ?_ _ | with_reducible refine Kept.setCell8 ?_ (Nat.le_refl _) _ _ | with_reducible refine Kept.setCell8 ?_ (Nat.le_succ _) _ _)⟩
set_option maxRecDepth 100000 in
theorem pwr50 (m : Mp) (a v : Int) (w : World) (a0 : 0 ≤ a) (a1 : a ≤ 65535) (v0 : 0 ≤ v) (v1 : v ≤ 255) (ha : a < 8192) :
    Calls Try.prog 45 #[mV m, .int .u16 a, .int .u8 v] w fun e w' => e = .returned (.agg #[.int .i64 m.kind, .bool (v == 10), .int .u8 m.low, .int .u8 m.high, .int .u8 m.ram, .bool m.mode]) ∧ Kept w w' := by
  obtain ⟨x1, x2, x3, x4, x5⟩ := ands v v0 v1
  have C := hid (fun u => opens_any v u v0 v1)
  have d0 : decide (a ≤ 8191) = true := decide_eq_true (by omega)
  have d1 : decide (a ≤ 12287) = true := decide_eq_true (by omega)
  have d2 : decide (a ≤ 16383) = true := decide_eq_true (by omega)
  have d3 : decide (a ≤ 24575) = true := decide_eq_true (by omega)
  have d4 : decide (a ≤ 32767) = true := decide_eq_true (by omega)
  clear ha
  go_enter Try.func45, Try.ntmps45
  go_wp2_with ((go_at_call 35; refine (C.out _).mono ?_; rintro e v1 ⟨rfl, rfl⟩))
  exact bodyPost_ret (v := .agg #[.int .i64 m.kind, .bool (v == 10), .int .u8 m.low, .int .u8 m.high, .int .u8 m.ram, .bool m.mode]) (by simp [results, Try.results45, go_sem]) rfl ⟨rfl, by repeat (first | with_reducible exact Kept.refl _ | with_reducible refine Kept.alloc ?_ _ | with_reducible refine Kept.setCell8 ?_ (Nat.le_refl _) _ _ | with_reducible refine Kept.setCell8 ?_ (Nat.le_succ _) _ _)⟩
set_option maxRecDepth 100000 in
theorem pwr51 (m : Mp) (a v : Int) (w : World) (a0 : 0 ≤ a) (a1 : a ≤ 65535) (v0 : 0 ≤ v) (v1 : v ≤ 255) (ha : 8192 ≤ a ∧ a < 12288) :
    Calls Try.prog 45 #[mV m, .int .u16 a, .int .u8 v] w fun e w' => e = .returned (.agg #[.int .i64 m.kind, .bool m.op, .int .u8 v, .int .u8 m.high, .int .u8 m.ram, .bool m.mode]) ∧ Kept w w' := by
  obtain ⟨x1, x2, x3, x4, x5⟩ := ands v v0 v1
  have C := hid (fun u => opens_any v u v0 v1)
  have d0 : decide (a ≤ 8191) = false := decide_eq_false (by omega)
  have d1 : decide (a ≤ 12287) = true := decide_eq_true (by omega)
  have d2 : decide (a ≤ 16383) = true := decide_eq_true (by omega)
  have d3 : decide (a ≤ 24575) = true := decide_eq_true (by omega)
  have d4 : decide (a ≤ 32767) = true := decide_eq_true (by omega)
  clear ha
  go_enter Try.func45, Try.ntmps45
  go_wp2_with ((go_at_call 35; refine (C.out _).mono ?_; rintro e v1 ⟨rfl, rfl⟩))
  exact bodyPost_ret (v := .agg #[.int .i64 m.kind, .bool m.op, .int .u8 v, .int .u8 m.high, .int .u8 m.ram, .bool m.mode]) (by simp [results, Try.results45, go_sem]) rfl ⟨rfl, by repeat (first | with_reducible exact Kept.refl _ | with_reducible refine Kept.alloc ?_ _ | with_reducible refine Kept.setCell8 ?_ (Nat.le_refl _) _ _ | with_reducible refine Kept.setCell8 ?_ (Nat.le_succ _) _ _)⟩
set_option maxRecDepth 100000 in
theorem pwr52 (m : Mp) (a v : Int) (w : World) (a0 : 0 ≤ a) (a1 : a ≤ 65535) (v0 : 0 ≤ v) (v1 : v ≤ 255) (ha : 12288 ≤ a ∧ a < 16384) :
    Calls Try.prog 45 #[mV m, .int .u16 a, .int .u8 v] w fun e w' => e = .returned (.agg #[.int .i64 m.kind, .bool m.op, .int .u8 m.low, .int .u8 (v % 2), .int .u8 m.ram, .bool m.mode]) ∧ Kept w w' := by
  obtain ⟨x1, x2, x3, x4, x5⟩ := ands v v0 v1
  have C := hid (fun u => opens_any v u v0 v1)
  have d0 : decide (a ≤ 8191) = false := decide_eq_false (by omega)
  have d1 : decide (a ≤ 12287) = false := decide_eq_false (by omega)
  have d2 : decide (a ≤ 16383) = true := decide_eq_true (by omega)
  have d3 : decide (a ≤ 24575) = true := decide_eq_true (by omega)
  have d4 : decide (a ≤ 32767) = true := decide_eq_true (by omega)
  clear ha
  go_enter Try.func45, Try.ntmps45
  go_wp2_with ((go_at_call 35; refine (C.out _).mono ?_; rintro e v1 ⟨rfl, rfl⟩))
  exact bodyPost_ret (v := .agg #[.int .i64 m.kind, .bool m.op, .int .u8 m.low, .int .u8 (v % 2), .int .u8 m.ram, .bool m.mode]) (by simp [results, Try.results45, go_sem]) rfl ⟨rfl, by repeat (first | with_reducible exact Kept.refl _ | with_reducible refine Kept.alloc ?_ _ | with_reducible refine Kept.setCell8 ?_ (Nat.le_refl _) _ _ | with_reducible refine Kept.setCell8 ?_ (Nat.le_succ _) _ _)⟩
set_option maxRecDepth 100000 in
theorem pwr53 (m : Mp) (a v : Int) (w : World) (a0 : 0 ≤ a) (a1 : a ≤ 65535) (v0 : 0 ≤ v) (v1 : v ≤ 255) (ha : 16384 ≤ a ∧ a < 24576) :
    Calls Try.prog 45 #[mV m, .int .u16 a, .int .u8 v] w fun e w' => e = .returned (.agg #[.int .i64 m.kind, .bool m.op, .int .u8 m.low, .int .u8 m.high, .int .u8 (v % 16), .bool m.mode]) ∧ Kept w w' := by
  obtain ⟨x1, x2, x3, x4, x5⟩ := ands v v0 v1
  have C := hid (fun u => opens_any v u v0 v1)
  have d0 : decide (a ≤ 8191) = false := decide_eq_false (by omega)
  have d1 : decide (a ≤ 12287) = false := decide_eq_false (by omega)
  have d2 : decide (a ≤ 16383) = false := decide_eq_false (by omega)
  have d3 : decide (a ≤ 24575) = true := decide_eq_true (by omega)
  have d4 : decide (a ≤ 32767) = true := decide_eq_true (by omega)
  clear ha
  go_enter Try.func45, Try.ntmps45
  go_wp2_with ((go_at_call 35; refine (C.out _).mono ?_; rintro e v1 ⟨rfl, rfl⟩))
  exact bodyPost_ret (v := .agg #[.int .i64 m.kind, .bool m.op, .int .u8 m.low, .int .u8 m.high, .int .u8 (v % 16), .bool m.mode]) (by simp [results, Try.results45, go_sem]) rfl ⟨rfl, by repeat (first | with_reducible exact Kept.refl _ | with_reducible refine Kept.alloc ?_ _ | with_reducible refine Kept.setCell8 ?_ (Nat.le_refl _) _ _ | with_reducible refine Kept.setCell8 ?_ (Nat.le_succ _) _ _)⟩
set_option maxRecDepth 100000 in
theorem pwr54 (m : Mp) (a v : Int) (w : World) (a0 : 0 ≤ a) (a1 : a ≤ 65535) (v0 : 0 ≤ v) (v1 : v ≤ 255) (ha : 24576 ≤ a ∧ a < 32768) :
    Calls Try.prog 45 #[mV m, .int .u16 a, .int .u8 v] w fun e w' => e = .returned (.agg #[.int .i64 m.kind, .bool m.op, .int .u8 m.low, .int .u8 m.high, .int .u8 m.ram, .bool m.mode]) ∧ Kept w w' := by
  obtain ⟨x1, x2, x3, x4, x5⟩ := ands v v0 v1
  have C := hid (fun u => opens_any v u v0 v1)
  have d0 : decide (a ≤ 8191) = false := decide_eq_false (by omega)
  have d1 : decide (a ≤ 12287) = false := decide_eq_false (by omega)
  have d2 : decide (a ≤ 16383) = false := decide_eq_false (by omega)
  have d3 : decide (a ≤ 24575) = false := decide_eq_false (by omega)
  have d4 : decide (a ≤ 32767) = true := decide_eq_true (by omega)
  clear ha
  go_enter Try.func45, Try.ntmps45
  go_wp2_with ((go_at_call 35; refine (C.out _).mono ?_; rintro e v1 ⟨rfl, rfl⟩))
  exact bodyPost_ret (v := .agg #[.int .i64 m.kind, .bool m.op, .int .u8 m.low, .int .u8 m.high, .int .u8 m.ram, .bool m.mode]) (by simp [results, Try.results45, go_sem]) rfl ⟨rfl, by repeat (first | with_reducible exact Kept.refl _ | with_reducible refine Kept.alloc ?_ _ | with_reducible refine Kept.setCell8 ?_ (Nat.le_refl _) _ _ | with_reducible refine Kept.setCell8 ?_ (Nat.le_succ _) _ _)⟩
set_option maxRecDepth 100000 in
theorem pwr55 (m : Mp) (a v : Int) (w : World) (a0 : 0 ≤ a) (a1 : a ≤ 65535) (v0 : 0 ≤ v) (v1 : v ≤ 255) (ha : 32768 ≤ a) :
    Calls Try.prog 45 #[mV m, .int .u16 a, .int .u8 v] w fun e w' => e = .returned (.agg #[.int .i64 m.kind, .bool m.op, .int .u8 m.low, .int .u8 m.high, .int .u8 m.ram, .bool m.mode]) ∧ Kept w w' := by
  obtain ⟨x1, x2, x3, x4, x5⟩ := ands v v0 v1
  have C := hid (fun u => opens_any v u v0 v1)
  have d0 : decide (a ≤ 8191) = false := decide_eq_false (by omega)
  have d1 : decide (a ≤ 12287) = false := decide_eq_false (by omega)
  have d2 : decide (a ≤ 16383) = false := decide_eq_false (by omega)
  have d3 : decide (a ≤ 24575) = false := decide_eq_false (by omega)
  have d4 : decide (a ≤ 32767) = false := decide_eq_false (by omega)
  clear ha
  go_enter Try.func45, Try.ntmps45
  go_wp2_with ((go_at_call 35; refine (C.out _).mono ?_; rintro e v1 ⟨rfl, rfl⟩))
  exact bodyPost_ret (v := .agg #[.int .i64 m.kind, .bool m.op, .int .u8 m.low, .int .u8 m.high, .int .u8 m.ram, .bool m.mode]) (by simp [results, Try.results45, go_sem]) rfl ⟨rfl, by repeat (first | with_reducible exact Kept.refl _ | with_reducible refine Kept.alloc ?_ _ | with_reducible refine Kept.setCell8 ?_ (Nat.le_refl _) _ _ | with_reducible refine Kept.setCell8 ?_ (Nat.le_succ _) _ _)⟩
set_option maxRecDepth 100000 in
theorem pwr0 (m : Mp) (a v : Int) (w : World) :
    Calls Try.prog 50 #[mV m, .int .u16 a, .int .u8 v] w fun e w' => e = .returned (mV m) ∧ Kept w w' := by
  go_enter Try.func50, Try.ntmps50
  go_wp2
  exact bodyPost_ret (v := mV m) (by simp [results, Try.results50, go_sem]) rfl ⟨rfl, by repeat (first | with_reducible exact Kept.refl _ | with_reducible refine Kept.alloc ?_ _ | with_reducible refine Kept.setCell8 ?_ (Nat.le_refl _) _ _ | with_reducible refine Kept.setCell8 ?_ (Nat.le_succ _) _ _)⟩
end Go.Proofs.Ytoehmmieceobeab
