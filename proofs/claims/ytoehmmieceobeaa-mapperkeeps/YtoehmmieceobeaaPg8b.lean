/- What the methods of the program's mapper come to, but write. -/
import Derived.Test.YtoehmmieceobeaaPg8a
namespace Go.Proofs.Ytoehmmieceobeaa
open Go.RowKit
set_option linter.unusedVariables false
set_option linter.unusedSimpArgs false

set_option maxRecDepth 100000 in
theorem upper_ex (m : Mp) (w : World) (M : MpIn m) : Calls Try.prog 45 #[mV m] w fun e w' => e = .returned (.int .i64 (32 * m.high)) ∧ w' = w.alloc (.cells #[.int .i64 m.kind, .bool m.op, .int .u8 m.low, .int .u8 m.high, .int .u8 m.ram, .bool m.mode] 50) := by
  have e1 := M.l0; have e2 := M.l1; have e3 := M.h0; have e4 := M.h1; have e5 := M.r0; have e6 := M.r1
  have wh : IntKind.i64.wrap (m.high) = m.high := by rw [IntKind.wrap_i64]; omega
  have wu : IntKind.i64.wrap (32 * m.high) = 32 * m.high := by rw [IntKind.wrap_i64]; omega
  go_enter Try.func45, Try.ntmps45
  go_wp2
  go_ret
  exact ⟨rfl, rfl⟩
set_option maxRecDepth 100000 in
theorem highBank1_any (m : Mp) (w : World) (M : MpIn m) : Calls Try.prog 41 #[mV m] w fun e w' => e = .returned (.int .i64 (32 * m.high + one m.low)) ∧ Kept w w' := by
  have e1 := M.l0; have e2 := M.l1; have e3 := M.h0; have e4 := M.h1; have e5 := M.r0; have e6 := M.r1
  have C1 := hid (fun u => upper_ex m u M)
  have C2 := hid (fun u => notZero_any m.low u e1 e2)
  have o := one_bd m.low e1 e2
  generalize one m.low = O at *
  have wu : IntKind.i64.wrap (32 * m.high + O) = 32 * m.high + O := by rw [IntKind.wrap_i64]; omega
  go_enter Try.func41, Try.ntmps41
  go_wp2_with fail
  go_region_with (first | (go_at_call 45; refine (C1.out _).mono ?_; rintro e v1 ⟨rfl, rfl⟩) | (go_at_call 46; refine (C2.out _).mono ?_; rintro e v2 ⟨rfl, rfl⟩))
  all_goals
    go_wp2
    go_ret
    exact ⟨rfl, by repeat (first | with_reducible exact Kept.refl _ | with_reducible refine Kept.alloc ?_ _ | with_reducible refine Kept.drew ?_ | with_reducible refine Kept.drewN ?_)⟩
set_option maxRecDepth 100000 in
theorem lowBank1_any (m : Mp) (w : World) (M : MpIn m) : Calls Try.prog 42 #[mV m] w fun e w' => e = .returned (.int .i64 (if m.mode then 32 * m.high else 0)) ∧ Kept w w' := by
  have C1 := hid (fun u => upper_ex m u M)
  clear M
  obtain ⟨kind, op, low, high, ram, mode⟩ := m
  cases mode
  all_goals
    go_enter Try.func42, Try.ntmps42
    go_wp2_with ((go_at_call 45; refine (C1.out _).mono ?_; rintro e v1 ⟨rfl, rfl⟩))
    go_ret
    exact ⟨rfl, by repeat (first | with_reducible exact Kept.refl _ | with_reducible refine Kept.alloc ?_ _ | with_reducible refine Kept.drew ?_ | with_reducible refine Kept.drewN ?_)⟩
set_option maxRecDepth 100000 in
theorem ramBank1_any (m : Mp) (w : World) (M : MpIn m) : Calls Try.prog 43 #[mV m] w fun e w' => e = .returned (.tuple #[.int .i64 (if m.mode then m.high else 0), .bool m.op]) ∧ Kept w w' := by
  have e1 := M.l0; have e2 := M.l1; have e3 := M.h0; have e4 := M.h1; have e5 := M.r0; have e6 := M.r1
  have wh : IntKind.i64.wrap (m.high) = m.high := by rw [IntKind.wrap_i64]; omega
  clear M
  obtain ⟨kind, op, low, high, ram, mode⟩ := m
  cases mode
  all_goals
    go_enter Try.func43, Try.ntmps43
    go_wp2
    go_quiet (fail)
    go_wp2
    go_ret2
    exact ⟨rfl, by repeat (first | with_reducible exact Kept.refl _ | with_reducible refine Kept.alloc ?_ _ | with_reducible refine Kept.drew ?_ | with_reducible refine Kept.drewN ?_)⟩
set_option maxRecDepth 100000 in
theorem highBank3_any (m : Mp) (w : World) (M : MpIn m) : Calls Try.prog 49 #[mV m] w fun e w' => e = .returned (.int .i64 (one m.low)) ∧ Kept w w' := by
  have e1 := M.l0; have e2 := M.l1; have e3 := M.h0; have e4 := M.h1; have e5 := M.r0; have e6 := M.r1
  have C2 := hid (fun u => notZero_any m.low u e1 e2)
  have o := one_bd m.low e1 e2
  generalize one m.low = O at *
  go_enter Try.func49, Try.ntmps49
  go_wp2_with ((go_at_call 46; refine (C2.out _).mono ?_; rintro e v2 ⟨rfl, rfl⟩))
  go_ret
  exact ⟨rfl, by repeat (first | with_reducible exact Kept.refl _ | with_reducible refine Kept.alloc ?_ _ | with_reducible refine Kept.drew ?_ | with_reducible refine Kept.drewN ?_)⟩
set_option maxRecDepth 100000 in
theorem ramBank3_any (m : Mp) (w : World) (M : MpIn m) : Calls Try.prog 51 #[mV m] w fun e w' => e = .returned (.tuple #[.int .i64 m.ram, .bool (m.op && decide (m.ram ≤ 7))]) ∧ Kept w w' := by
  have e1 := M.l0; have e2 := M.l1; have e3 := M.h0; have e4 := M.h1; have e5 := M.r0; have e6 := M.r1
  have wh : IntKind.i64.wrap (m.ram) = m.ram := by rw [IntKind.wrap_i64]; omega
  clear M
  obtain ⟨kind, op, low, high, ram, mode⟩ := m
  cases op
  all_goals
    go_enter Try.func51, Try.ntmps51
    go_wp2
    go_quiet (fail)
    go_wp2
    go_ret2
    exact ⟨by simp, by repeat (first | with_reducible exact Kept.refl _ | with_reducible refine Kept.alloc ?_ _ | with_reducible refine Kept.drew ?_ | with_reducible refine Kept.drewN ?_)⟩
set_option maxRecDepth 100000 in
theorem clockReg3_any (m : Mp) (w : World) (M : MpIn m) : Calls Try.prog 48 #[mV m] w fun e w' => e = .returned (.int .i64 (if m.op = true ∧ 8 ≤ m.ram ∧ m.ram ≤ 12 then m.ram else 0)) ∧ Kept w w' := by
  have e1 := M.l0; have e2 := M.l1; have e3 := M.h0; have e4 := M.h1; have e5 := M.r0; have e6 := M.r1
  have wh : IntKind.i64.wrap (m.ram) = m.ram := by rw [IntKind.wrap_i64]; omega
  clear M
  obtain ⟨kind, op, low, high, ram, mode⟩ := m
  cases op
  · go_enter Try.func48, Try.ntmps48
    go_wp2
    go_ret
    exact ⟨by simp, by repeat (first | with_reducible exact Kept.refl _ | with_reducible refine Kept.alloc ?_ _ | with_reducible refine Kept.drew ?_ | with_reducible refine Kept.drewN ?_)⟩
  by_cases c8 : 8 ≤ ram
  · have d8 : decide (8 ≤ ram) = true := decide_eq_true c8
    by_cases c12 : ram ≤ 12
    · have d12 : decide (ram ≤ 12) = true := decide_eq_true c12
      go_enter Try.func48, Try.ntmps48
      go_wp2
      go_ret
      exact ⟨by simp [c8, c12], by repeat (first | with_reducible exact Kept.refl _ | with_reducible refine Kept.alloc ?_ _ | with_reducible refine Kept.drew ?_ | with_reducible refine Kept.drewN ?_)⟩
    · have d12 : decide (ram ≤ 12) = false := decide_eq_false c12
      go_enter Try.func48, Try.ntmps48
      go_wp2
      go_ret
      exact ⟨by simp [c8, c12], by repeat (first | with_reducible exact Kept.refl _ | with_reducible refine Kept.alloc ?_ _ | with_reducible refine Kept.drew ?_ | with_reducible refine Kept.drewN ?_)⟩
  · have d8 : decide (8 ≤ ram) = false := decide_eq_false c8
    go_enter Try.func48, Try.ntmps48
    go_wp2
    go_ret
    exact ⟨by simp [c8], by repeat (first | with_reducible exact Kept.refl _ | with_reducible refine Kept.alloc ?_ _ | with_reducible refine Kept.drew ?_ | with_reducible refine Kept.drewN ?_)⟩
end Go.Proofs.Ytoehmmieceobeaa
