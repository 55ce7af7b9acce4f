/- What the methods of the program's mapper come to, but write. -/
import Derived.Test.YtoehmmieceobeabPg8a
namespace Go.Proofs.Ytoehmmieceobeab
open Go.RowKit
set_option linter.unusedVariables false
set_option linter.unusedSimpArgs false

set_option maxRecDepth 100000 in
theorem upper_ex (m : Mp) (w : World) (M : MpIn m) : Calls Try.prog 33 #[mV m] w fun e w' => e = .returned (.int .i64 (32 * m.high)) ∧ w' = w.alloc (.cells #[.int .i64 m.kind, .bool m.op, .int .u8 m.low, .int .u8 m.high, .int .u8 m.ram, .bool m.mode] 41) := by
  have e1 := M.l0; have e2 := M.l1; have e3 := M.h0; have e4 := M.h1; have e5 := M.r0; have e6 := M.r1
  have wh : IntKind.i64.wrap (m.high) = m.high := by rw [IntKind.wrap_i64]; omega
  have wu : IntKind.i64.wrap (32 * m.high) = 32 * m.high := by rw [IntKind.wrap_i64]; omega
  go_enter Try.func33, Try.ntmps33
  go_wp2
  go_ret
  exact ⟨rfl, rfl⟩
set_option maxRecDepth 100000 in
theorem highBank1_any (m : Mp) (w : World) (M : MpIn m) : Calls Try.prog 29 #[mV m] w fun e w' => e = .returned (.int .i64 (32 * m.high + one m.low)) ∧ Kept w w' := by
  have e1 := M.l0; have e2 := M.l1; have e3 := M.h0; have e4 := M.h1; have e5 := M.r0; have e6 := M.r1
  have C1 := hid (fun u => upper_ex m u M)
  have C2 := hid (fun u => notZero_any m.low u e1 e2)
  have o := one_bd m.low e1 e2
  generalize one m.low = O at *
  have wu : IntKind.i64.wrap (32 * m.high + O) = 32 * m.high + O := by rw [IntKind.wrap_i64]; omega
  go_enter Try.func29, Try.ntmps29
  go_wp2_with fail
  go_region_with (first | (go_at_call 33; refine (C1.out _).mono ?_; rintro e v1 ⟨rfl, rfl⟩) | (go_at_call 34; refine (C2.out _).mono ?_; rintro e v2 ⟨rfl, rfl⟩))
  all_goals
    go_wp2
    go_ret
    exact ⟨rfl, by repeat (first | with_reducible exact Kept.refl _ | with_reducible refine Kept.alloc ?_ _ | with_reducible refine Kept.drew ?_ | with_reducible refine Kept.drewN ?_)⟩
set_option maxRecDepth 100000 in
theorem lowBank1_any (m : Mp) (w : World) (M : MpIn m) : Calls Try.prog 30 #[mV m] w fun e w' => e = .returned (.int .i64 (if m.mode then 32 * m.high else 0)) ∧ Kept w w' := by
  have C1 := hid (fun u => upper_ex m u M)
  clear M
  obtain ⟨kind, op, low, high, ram, mode⟩ := m
  cases mode
  all_goals
    go_enter Try.func30, Try.ntmps30
    go_wp2_with ((go_at_call 33; refine (C1.out _).mono ?_; rintro e v1 ⟨rfl, rfl⟩))
    go_ret
    exact ⟨rfl, by repeat (first | with_reducible exact Kept.refl _ | with_reducible refine Kept.alloc ?_ _ | with_reducible refine Kept.drew ?_ | with_reducible refine Kept.drewN ?_)⟩
set_option maxRecDepth 100000 in
theorem ramBank1_any (m : Mp) (w : World) (M : MpIn m) : Calls Try.prog 31 #[mV m] w fun e w' => e = .returned (.tuple #[.int .i64 (if m.mode then m.high else 0), .bool m.op]) ∧ Kept w w' := by
  have e1 := M.l0; have e2 := M.l1; have e3 := M.h0; have e4 := M.h1; have e5 := M.r0; have e6 := M.r1
  have wh : IntKind.i64.wrap (m.high) = m.high := by rw [IntKind.wrap_i64]; omega
  clear M
  obtain ⟨kind, op, low, high, ram, mode⟩ := m
  cases mode
  all_goals
    go_enter Try.func31, Try.ntmps31
    go_wp2
    go_quiet (fail)
    go_wp2
    go_ret2
    exact ⟨rfl, by repeat (first | with_reducible exact Kept.refl _ | with_reducible refine Kept.alloc ?_ _ | with_reducible refine Kept.drew ?_ | with_reducible refine Kept.drewN ?_)⟩
set_option maxRecDepth 100000 in
theorem highBank3_any (m : Mp) (w : World) (M : MpIn m) : Calls Try.prog 37 #[mV m] w fun e w' => e = .returned (.int .i64 (one m.low)) ∧ Kept w w' := by
  have e1 := M.l0; have e2 := M.l1; have e3 := M.h0; have e4 := M.h1; have e5 := M.r0; have e6 := M.r1
  have C2 := hid (fun u => notZero_any m.low u e1 e2)
  have o := one_bd m.low e1 e2
  generalize one m.low = O at *
  go_enter Try.func37, Try.ntmps37
  go_wp2_with ((go_at_call 34; refine (C2.out _).mono ?_; rintro e v2 ⟨rfl, rfl⟩))
  go_ret
  exact ⟨rfl, by repeat (first | with_reducible exact Kept.refl _ | with_reducible refine Kept.alloc ?_ _ | with_reducible refine Kept.drew ?_ | with_reducible refine Kept.drewN ?_)⟩
set_option maxRecDepth 100000 in
theorem ramBank3_any (m : Mp) (w : World) (M : MpIn m) : Calls Try.prog 39 #[mV m] w fun e w' => e = .returned (.tuple #[.int .i64 m.ram, .bool (m.op && decide (m.ram ≤ 7))]) ∧ Kept w w' := by
  have e1 := M.l0; have e2 := M.l1; have e3 := M.h0; have e4 := M.h1; have e5 := M.r0; have e6 := M.r1
  have wh : IntKind.i64.wrap (m.ram) = m.ram := by rw [IntKind.wrap_i64]; omega
  clear M
  obtain ⟨kind, op, low, high, ram, mode⟩ := m
  cases op
  all_goals
    go_enter Try.func39, Try.ntmps39
    go_wp2
    go_quiet (fail)
    go_wp2
    go_ret2
    exact ⟨by simp, by repeat (first | with_reducible exact Kept.refl _ | with_reducible refine Kept.alloc ?_ _ | with_reducible refine Kept.drew ?_ | with_reducible refine Kept.drewN ?_)⟩
set_option maxRecDepth 100000 in
theorem clockReg3_any (m : Mp) (w : World) (M : MpIn m) : Calls Try.prog 36 #[mV m] w fun e w' => e = .returned (.int .i64 (if m.op = true ∧ 8 ≤ m.ram ∧ m.ram ≤ 12 then m.ram else 0)) ∧ Kept w w' := by
  have e1 := M.l0; have e2 := M.l1; have e3 := M.h0; have e4 := M.h1; have e5 := M.r0; have e6 := M.r1
  have wh : IntKind.i64.wrap (m.ram) = m.ram := by rw [IntKind.wrap_i64]; omega
  clear M
  obtain ⟨kind, op, low, high, ram, mode⟩ := m
  cases op
  · go_enter Try.func36, Try.ntmps36
    go_wp2
    go_ret
    exact ⟨by simp, by repeat (first | with_reducible exact Kept.refl _ | with_reducible refine Kept.alloc ?_ _ | with_reducible refine Kept.drew ?_ | with_reducible refine Kept.drewN ?_)⟩
  by_cases c8 : 8 ≤ ram
  · have d8 : decide (8 ≤ ram) = true := decide_eq_true c8
    by_cases c12 : ram ≤ 12
    · have d12 : decide (ram ≤ 12) = true := decide_eq_true c12
      go_enter Try.func36, Try.ntmps36
      go_wp2
      go_ret
      exact ⟨by simp [c8, c12], by repeat (first | with_reducible exact Kept.refl _ | with_reducible refine Kept.alloc ?_ _ | with_reducible refine Kept.drew ?_ | with_reducible refine Kept.drewN ?_)⟩
    · have d12 : decide (ram ≤ 12) = false := decide_eq_false c12
      go_enter Try.func36, Try.ntmps36
      go_wp2
      go_ret
      exact ⟨by simp [c8, c12], by repeat (first | with_reducible exact Kept.refl _ | with_reducible refine Kept.alloc ?_ _ | with_reducible refine Kept.drew ?_ | with_reducible refine Kept.drewN ?_)⟩
  · have d8 : decide (8 ≤ ram) = false := decide_eq_false c8
    go_enter Try.func36, Try.ntmps36
    go_wp2
    go_ret
    exact ⟨by simp [c8], by repeat (first | with_reducible exact Kept.refl _ | with_reducible refine Kept.alloc ?_ _ | with_reducible refine Kept.drew ?_ | with_reducible refine Kept.drewN ?_)⟩
end Go.Proofs.Ytoehmmieceobeab
