/- What the smaller calls of the program's mapper come to. What the methods of the program's mapper come to, but write. What write of the program's mapper comes to. What the six calls of the program's mapper come to. -/
import Derived.Handy
import Derived.Deep.QuietTactic
import Derived.BigQuiet
import Derived.Deep.RegionHeld3
import Derived.Test.YtfmddnekooojkaaGreatDoorChecked
import Derived.Test.YtfmddnekooojkaaGreatDoorG04
import Derived.Test.YtfmddnekooojkaaGreatDoorG03
import Derived.Test.YtfmddnekooojkaaGreatDoorG10
namespace Go.Proofs.YtfmddnekooojkaaGreatDoor
open Go.RowKit
set_option linter.unusedVariables false
set_option linter.unusedSimpArgs false

abbrev mV (m : Mp) : Value := .agg #[.int .i64 m.kind, .bool m.op, .int .u8 m.low, .int .u8 m.high, .int .u8 m.ram, .bool m.mode]
theorem ands_fin : ∀ a : Fin 256, bits .and .u8 (a.val : Int) 31 = (a.val : Int) % 32 ∧ bits .and .u8 (a.val : Int) 3 = (a.val : Int) % 4 ∧ bits .and .u8 (a.val : Int) 1 = (a.val : Int) % 2 ∧ bits .and .u8 (a.val : Int) 127 = (a.val : Int) % 128 ∧ bits .and .u8 (a.val : Int) 15 = (a.val : Int) % 16 := by decide +kernel
theorem ands (v : Int) (v0 : 0 ≤ v) (v1 : v ≤ 255) : bits .and .u8 v 31 = v % 32 ∧ bits .and .u8 v 3 = v % 4 ∧ bits .and .u8 v 1 = v % 2 ∧ bits .and .u8 v 127 = v % 128 ∧ bits .and .u8 v 15 = v % 16 :=
  fin8 (p := fun v => bits .and .u8 v 31 = v % 32 ∧ bits .and .u8 v 3 = v % 4 ∧ bits .and .u8 v 1 = v % 2 ∧ bits .and .u8 v 127 = v % 128 ∧ bits .and .u8 v 15 = v % 16) ands_fin v v0 v1
theorem opens_any (v : Int) (w : World) (v0 : 0 ≤ v) (v1 : v ≤ 255) : Calls Tryz.prog 105 #[.int .u8 v] w fun e w' => e = .returned (.bool (v % 16 == 10)) ∧ w' = w := by
  obtain ⟨_, _, _, _, e⟩ := ands v v0 v1
  go_enter Tryz.func105, Tryz.ntmps105
  go_wp2
  go_ret
  exact ⟨rfl, rfl⟩
theorem notZero_any (v : Int) (w : World) (v0 : 0 ≤ v) (v1 : v ≤ 255) : Calls Tryz.prog 104 #[.int .u8 v] w fun e w' => e = .returned (.int .i64 (one v)) ∧ w' = w := by
  have wv : IntKind.i64.wrap v = v := by rw [IntKind.wrap_i64]; omega
  by_cases c : 1 < v
  · have E := hid (show one v = v by unfold one; rw [if_neg (by omega)])
    generalize one v = o at *
    go_enter Tryz.func104, Tryz.ntmps104
    go_wp2
    go_ret
    exact ⟨by rw [E.out]; rfl, rfl⟩
  · have E := hid (show one v = 1 by unfold one; split <;> omega)
    generalize one v = o at *
    go_enter Tryz.func104, Tryz.ntmps104
    go_wp2
    go_ret
    exact ⟨by rw [E.out]; rfl, rfl⟩
theorem inWindow_any (a : Int) (w : World) : Calls Tryz.prog 79 #[.int .u16 a] w fun e w' => e = .returned (.bool (inWin a)) ∧ w' = w := by
  unfold inWin
  go_enter Tryz.func79, Tryz.ntmps79
  by_cases h : 40960 ≤ a
  · have h2 : decide (40960 ≤ a) = true := decide_eq_true h
    rw [h2]
    go_wp2
    go_ret
    exact ⟨by congr 2; simp; omega, rfl⟩
  · have h2 : decide (40960 ≤ a) = false := decide_eq_false h
    rw [h2]
    go_wp2
    go_ret
    exact ⟨by simp, rfl⟩
set_option maxRecDepth 100000 in
theorem chipOf1_any (m : Mp) (w : World) (h : m.kind = 1) : Calls Tryz.prog 78 #[mV m] w fun e w' => e = .returned (.iface 130 (mV m)) ∧ Kept w w' := by
  have b1 : (m.kind == 1) = true := by simpa using h
  have b3 : (m.kind == 3) = false := by rw [h]; rfl
  have b5 : (m.kind == 5) = false := by rw [h]; rfl
  clear h
  go_enter Tryz.func78, Tryz.ntmps78
  go_wp2
  go_ret
  exact ⟨rfl, by repeat (first | with_reducible exact Kept.refl _ | with_reducible refine Kept.alloc ?_ _ | with_reducible refine Kept.drew ?_ | with_reducible refine Kept.drewN ?_)⟩
set_option maxRecDepth 100000 in
theorem chipOf3_any (m : Mp) (w : World) (h : m.kind = 3) : Calls Tryz.prog 78 #[mV m] w fun e w' => e = .returned (.iface 131 (mV m)) ∧ Kept w w' := by
  have b3 : (m.kind == 3) = true := by simpa using h
  have b1 : (m.kind == 1) = false := by rw [h]; rfl
  have b5 : (m.kind == 5) = false := by rw [h]; rfl
  clear h
  go_enter Tryz.func78, Tryz.ntmps78
  go_wp2
  go_ret
  exact ⟨rfl, by repeat (first | with_reducible exact Kept.refl _ | with_reducible refine Kept.alloc ?_ _ | with_reducible refine Kept.drew ?_ | with_reducible refine Kept.drewN ?_)⟩
set_option maxRecDepth 100000 in
theorem chipOf5_any (m : Mp) (w : World) (h : m.kind = 5) : Calls Tryz.prog 78 #[mV m] w fun e w' => e = .returned (.iface 132 (mV m)) ∧ Kept w w' := by
  have b5 : (m.kind == 5) = true := by simpa using h
  have b1 : (m.kind == 1) = false := by rw [h]; rfl
  have b3 : (m.kind == 3) = false := by rw [h]; rfl
  clear h
  go_enter Tryz.func78, Tryz.ntmps78
  go_wp2
  go_ret
  exact ⟨rfl, by repeat (first | with_reducible exact Kept.refl _ | with_reducible refine Kept.alloc ?_ _ | with_reducible refine Kept.drew ?_ | with_reducible refine Kept.drewN ?_)⟩
set_option maxRecDepth 100000 in
theorem chipOf0_any (m : Mp) (w : World) (n1 : m.kind ≠ 1) (n3 : m.kind ≠ 3) (n5 : m.kind ≠ 5) : Calls Tryz.prog 78 #[mV m] w fun e w' => e = .returned (.iface 133 (mV m)) ∧ Kept w w' := by
  have b1 : (m.kind == 1) = false := by simpa using n1
  have b3 : (m.kind == 3) = false := by simpa using n3
  have b5 : (m.kind == 5) = false := by simpa using n5
  go_enter Tryz.func78, Tryz.ntmps78
  go_wp2
  go_ret
  exact ⟨rfl, by repeat (first | with_reducible exact Kept.refl _ | with_reducible refine Kept.alloc ?_ _ | with_reducible refine Kept.drew ?_ | with_reducible refine Kept.drewN ?_)⟩
set_option maxRecDepth 100000 in
theorem upper1_any (m : Mp) (w : World) (M : MpIn m) : Calls Tryz.prog 103 #[mV m] w fun e w' => e = .returned (.int .i64 (32 * m.high)) ∧ Kept w w' := by
  have e1 := M.l0; have e2 := M.l1; have e3 := M.h0; have e4 := M.h1; have e5 := M.r0; have e6 := M.r1
  have wh : IntKind.i64.wrap (m.high) = m.high := by rw [IntKind.wrap_i64]; omega
  have wu : IntKind.i64.wrap (32 * m.high) = 32 * m.high := by rw [IntKind.wrap_i64]; omega
  go_enter Tryz.func103, Tryz.ntmps103
  go_wp2
  go_ret
  exact ⟨rfl, by repeat (first | with_reducible exact Kept.refl _ | with_reducible refine Kept.alloc ?_ _ | with_reducible refine Kept.drew ?_ | with_reducible refine Kept.drewN ?_)⟩
set_option maxRecDepth 100000 in
theorem clockReg1_any (m : Mp) (w : World) : Calls Tryz.prog 98 #[mV m] w fun e w' => e = .returned (.int .i64 0) ∧ Kept w w' := by
  go_enter Tryz.func98, Tryz.ntmps98
  go_wp2
  go_ret
  exact ⟨rfl, by repeat (first | with_reducible exact Kept.refl _ | with_reducible refine Kept.alloc ?_ _ | with_reducible refine Kept.drew ?_ | with_reducible refine Kept.drewN ?_)⟩
set_option maxRecDepth 100000 in
theorem clockReg5_any (m : Mp) (w : World) : Calls Tryz.prog 111 #[mV m] w fun e w' => e = .returned (.int .i64 0) ∧ Kept w w' := by
  go_enter Tryz.func111, Tryz.ntmps111
  go_wp2
  go_ret
  exact ⟨rfl, by repeat (first | with_reducible exact Kept.refl _ | with_reducible refine Kept.alloc ?_ _ | with_reducible refine Kept.drew ?_ | with_reducible refine Kept.drewN ?_)⟩
set_option maxRecDepth 100000 in
theorem clockReg0_any (m : Mp) (w : World) : Calls Tryz.prog 116 #[mV m] w fun e w' => e = .returned (.int .i64 0) ∧ Kept w w' := by
  go_enter Tryz.func116, Tryz.ntmps116
  go_wp2
  go_ret
  exact ⟨rfl, by repeat (first | with_reducible exact Kept.refl _ | with_reducible refine Kept.alloc ?_ _ | with_reducible refine Kept.drew ?_ | with_reducible refine Kept.drewN ?_)⟩
set_option maxRecDepth 100000 in
theorem lowBank3_any (m : Mp) (w : World) : Calls Tryz.prog 108 #[mV m] w fun e w' => e = .returned (.int .i64 0) ∧ Kept w w' := by
  go_enter Tryz.func108, Tryz.ntmps108
  go_wp2
  go_ret
  exact ⟨rfl, by repeat (first | with_reducible exact Kept.refl _ | with_reducible refine Kept.alloc ?_ _ | with_reducible refine Kept.drew ?_ | with_reducible refine Kept.drewN ?_)⟩
set_option maxRecDepth 100000 in
theorem lowBank5_any (m : Mp) (w : World) : Calls Tryz.prog 113 #[mV m] w fun e w' => e = .returned (.int .i64 0) ∧ Kept w w' := by
  go_enter Tryz.func113, Tryz.ntmps113
  go_wp2
  go_ret
  exact ⟨rfl, by repeat (first | with_reducible exact Kept.refl _ | with_reducible refine Kept.alloc ?_ _ | with_reducible refine Kept.drew ?_ | with_reducible refine Kept.drewN ?_)⟩
set_option maxRecDepth 100000 in
theorem lowBank0_any (m : Mp) (w : World) : Calls Tryz.prog 118 #[mV m] w fun e w' => e = .returned (.int .i64 0) ∧ Kept w w' := by
  go_enter Tryz.func118, Tryz.ntmps118
  go_wp2
  go_ret
  exact ⟨rfl, by repeat (first | with_reducible exact Kept.refl _ | with_reducible refine Kept.alloc ?_ _ | with_reducible refine Kept.drew ?_ | with_reducible refine Kept.drewN ?_)⟩
set_option maxRecDepth 100000 in
theorem highBank0_any (m : Mp) (w : World) : Calls Tryz.prog 117 #[mV m] w fun e w' => e = .returned (.int .i64 1) ∧ Kept w w' := by
  go_enter Tryz.func117, Tryz.ntmps117
  go_wp2
  go_ret
  exact ⟨rfl, by repeat (first | with_reducible exact Kept.refl _ | with_reducible refine Kept.alloc ?_ _ | with_reducible refine Kept.drew ?_ | with_reducible refine Kept.drewN ?_)⟩
set_option maxRecDepth 100000 in
theorem ramBank0_any (m : Mp) (w : World) : Calls Tryz.prog 119 #[mV m] w fun e w' => e = .returned (.tuple #[.int .i64 0, .bool true]) ∧ Kept w w' := by
  go_enter Tryz.func119, Tryz.ntmps119
  go_wp2
  go_ret2
  exact ⟨rfl, by repeat (first | with_reducible exact Kept.refl _ | with_reducible refine Kept.alloc ?_ _ | with_reducible refine Kept.drew ?_ | with_reducible refine Kept.drewN ?_)⟩
set_option maxRecDepth 100000 in
theorem highBank5_any (m : Mp) (w : World) (M : MpIn m) : Calls Tryz.prog 112 #[mV m] w fun e w' => e = .returned (.int .i64 (256 * m.high + m.low)) ∧ Kept w w' := by
  have e1 := M.l0; have e2 := M.l1; have e3 := M.h0; have e4 := M.h1; have e5 := M.r0; have e6 := M.r1
  have wh : IntKind.i64.wrap (m.high) = m.high := by rw [IntKind.wrap_i64]; omega
  have wu : IntKind.i64.wrap (256 * m.high) = 256 * m.high := by rw [IntKind.wrap_i64]; omega
  have wl : IntKind.i64.wrap (m.low) = m.low := by rw [IntKind.wrap_i64]; omega
  have wt : IntKind.i64.wrap (256 * m.high + m.low) = 256 * m.high + m.low := by rw [IntKind.wrap_i64]; omega
  go_enter Tryz.func112, Tryz.ntmps112
  go_wp2
  go_ret
  exact ⟨rfl, by repeat (first | with_reducible exact Kept.refl _ | with_reducible refine Kept.alloc ?_ _ | with_reducible refine Kept.drew ?_ | with_reducible refine Kept.drewN ?_)⟩
set_option maxRecDepth 100000 in
theorem ramBank5_any (m : Mp) (w : World) (M : MpIn m) : Calls Tryz.prog 114 #[mV m] w fun e w' => e = .returned (.tuple #[.int .i64 m.ram, .bool m.op]) ∧ Kept w w' := by
  have e1 := M.l0; have e2 := M.l1; have e3 := M.h0; have e4 := M.h1; have e5 := M.r0; have e6 := M.r1
  have wr : IntKind.i64.wrap (m.ram) = m.ram := by rw [IntKind.wrap_i64]; omega
  go_enter Tryz.func114, Tryz.ntmps114
  go_wp2
  go_quiet (fail)
  go_wp2
  go_ret2
  exact ⟨rfl, by repeat (first | with_reducible exact Kept.refl _ | with_reducible refine Kept.alloc ?_ _ | with_reducible refine Kept.drew ?_ | with_reducible refine Kept.drewN ?_)⟩
end Go.Proofs.YtfmddnekooojkaaGreatDoor
namespace Go.Proofs.YtfmddnekooojkaaGreatDoor
open Go.RowKit
set_option linter.unusedVariables false
set_option linter.unusedSimpArgs false

set_option maxRecDepth 100000 in
theorem upper_ex (m : Mp) (w : World) (M : MpIn m) : Calls Tryz.prog 103 #[mV m] w fun e w' => e = .returned (.int .i64 (32 * m.high)) ∧ w' = w.alloc (.cells #[.int .i64 m.kind, .bool m.op, .int .u8 m.low, .int .u8 m.high, .int .u8 m.ram, .bool m.mode] 130) := by
  have e1 := M.l0; have e2 := M.l1; have e3 := M.h0; have e4 := M.h1; have e5 := M.r0; have e6 := M.r1
  have wh : IntKind.i64.wrap (m.high) = m.high := by rw [IntKind.wrap_i64]; omega
  have wu : IntKind.i64.wrap (32 * m.high) = 32 * m.high := by rw [IntKind.wrap_i64]; omega
  go_enter Tryz.func103, Tryz.ntmps103
  go_wp2
  go_ret
  exact ⟨rfl, rfl⟩
set_option maxRecDepth 100000 in
theorem highBank1_any (m : Mp) (w : World) (M : MpIn m) : Calls Tryz.prog 99 #[mV m] w fun e w' => e = .returned (.int .i64 (32 * m.high + one m.low)) ∧ Kept w w' := by
  have e1 := M.l0; have e2 := M.l1; have e3 := M.h0; have e4 := M.h1; have e5 := M.r0; have e6 := M.r1
  have C1 := hid (fun u => upper_ex m u M)
  have C2 := hid (fun u => notZero_any m.low u e1 e2)
  have o := one_bd m.low e1 e2
  generalize one m.low = O at *
  have wu : IntKind.i64.wrap (32 * m.high + O) = 32 * m.high + O := by rw [IntKind.wrap_i64]; omega
  go_enter Tryz.func99, Tryz.ntmps99
  go_wp2_with fail
  go_region_with (first | (go_at_call 103; refine (C1.out _).mono ?_; rintro e v1 ⟨rfl, rfl⟩) | (go_at_call 104; refine (C2.out _).mono ?_; rintro e v2 ⟨rfl, rfl⟩))
  all_goals
    go_wp2
    go_ret
    exact ⟨rfl, by repeat (first | with_reducible exact Kept.refl _ | with_reducible refine Kept.alloc ?_ _ | with_reducible refine Kept.drew ?_ | with_reducible refine Kept.drewN ?_)⟩
set_option maxRecDepth 100000 in
theorem lowBank1_any (m : Mp) (w : World) (M : MpIn m) : Calls Tryz.prog 100 #[mV m] w fun e w' => e = .returned (.int .i64 (if m.mode then 32 * m.high else 0)) ∧ Kept w w' := by
  have C1 := hid (fun u => upper_ex m u M)
  clear M
  obtain ⟨kind, op, low, high, ram, mode⟩ := m
  cases mode
  all_goals
    go_enter Tryz.func100, Tryz.ntmps100
    go_wp2_with ((go_at_call 103; refine (C1.out _).mono ?_; rintro e v1 ⟨rfl, rfl⟩))
    go_ret
    exact ⟨rfl, by repeat (first | with_reducible exact Kept.refl _ | with_reducible refine Kept.alloc ?_ _ | with_reducible refine Kept.drew ?_ | with_reducible refine Kept.drewN ?_)⟩
set_option maxRecDepth 100000 in
theorem ramBank1_any (m : Mp) (w : World) (M : MpIn m) : Calls Tryz.prog 101 #[mV m] w fun e w' => e = .returned (.tuple #[.int .i64 (if m.mode then m.high else 0), .bool m.op]) ∧ Kept w w' := by
  have e1 := M.l0; have e2 := M.l1; have e3 := M.h0; have e4 := M.h1; have e5 := M.r0; have e6 := M.r1
  have wh : IntKind.i64.wrap (m.high) = m.high := by rw [IntKind.wrap_i64]; omega
  clear M
  obtain ⟨kind, op, low, high, ram, mode⟩ := m
  cases mode
  all_goals
    go_enter Tryz.func101, Tryz.ntmps101
    go_wp2
    go_quiet (fail)
    go_wp2
    go_ret2
    exact ⟨rfl, by repeat (first | with_reducible exact Kept.refl _ | with_reducible refine Kept.alloc ?_ _ | with_reducible refine Kept.drew ?_ | with_reducible refine Kept.drewN ?_)⟩
set_option maxRecDepth 100000 in
theorem highBank3_any (m : Mp) (w : World) (M : MpIn m) : Calls Tryz.prog 107 #[mV m] w fun e w' => e = .returned (.int .i64 (one m.low)) ∧ Kept w w' := by
  have e1 := M.l0; have e2 := M.l1; have e3 := M.h0; have e4 := M.h1; have e5 := M.r0; have e6 := M.r1
  have C2 := hid (fun u => notZero_any m.low u e1 e2)
  have o := one_bd m.low e1 e2
  generalize one m.low = O at *
  go_enter Tryz.func107, Tryz.ntmps107
  go_wp2_with ((go_at_call 104; refine (C2.out _).mono ?_; rintro e v2 ⟨rfl, rfl⟩))
  go_ret
  exact ⟨rfl, by repeat (first | with_reducible exact Kept.refl _ | with_reducible refine Kept.alloc ?_ _ | with_reducible refine Kept.drew ?_ | with_reducible refine Kept.drewN ?_)⟩
set_option maxRecDepth 100000 in
theorem ramBank3_any (m : Mp) (w : World) (M : MpIn m) : Calls Tryz.prog 109 #[mV m] w fun e w' => e = .returned (.tuple #[.int .i64 m.ram, .bool (m.op && decide (m.ram ≤ 7))]) ∧ Kept w w' := by
  have e1 := M.l0; have e2 := M.l1; have e3 := M.h0; have e4 := M.h1; have e5 := M.r0; have e6 := M.r1
  have wh : IntKind.i64.wrap (m.ram) = m.ram := by rw [IntKind.wrap_i64]; omega
  clear M
  obtain ⟨kind, op, low, high, ram, mode⟩ := m
  cases op
  all_goals
    go_enter Tryz.func109, Tryz.ntmps109
    go_wp2
    go_quiet (fail)
    go_wp2
    go_ret2
    exact ⟨by simp, by repeat (first | with_reducible exact Kept.refl _ | with_reducible refine Kept.alloc ?_ _ | with_reducible refine Kept.drew ?_ | with_reducible refine Kept.drewN ?_)⟩
set_option maxRecDepth 100000 in
theorem clockReg3_any (m : Mp) (w : World) (M : MpIn m) : Calls Tryz.prog 106 #[mV m] w fun e w' => e = .returned (.int .i64 (if m.op = true ∧ 8 ≤ m.ram ∧ m.ram ≤ 12 then m.ram else 0)) ∧ Kept w w' := by
  have e1 := M.l0; have e2 := M.l1; have e3 := M.h0; have e4 := M.h1; have e5 := M.r0; have e6 := M.r1
  have wh : IntKind.i64.wrap (m.ram) = m.ram := by rw [IntKind.wrap_i64]; omega
  clear M
  obtain ⟨kind, op, low, high, ram, mode⟩ := m
  cases op
  · go_enter Tryz.func106, Tryz.ntmps106
    go_wp2
    go_ret
    exact ⟨by simp, by repeat (first | with_reducible exact Kept.refl _ | with_reducible refine Kept.alloc ?_ _ | with_reducible refine Kept.drew ?_ | with_reducible refine Kept.drewN ?_)⟩
  by_cases c8 : 8 ≤ ram
  · have d8 : decide (8 ≤ ram) = true := decide_eq_true c8
    by_cases c12 : ram ≤ 12
    · have d12 : decide (ram ≤ 12) = true := decide_eq_true c12
      go_enter Tryz.func106, Tryz.ntmps106
      go_wp2
      go_ret
      exact ⟨by simp [c8, c12], by repeat (first | with_reducible exact Kept.refl _ | with_reducible refine Kept.alloc ?_ _ | with_reducible refine Kept.drew ?_ | with_reducible refine Kept.drewN ?_)⟩
    · have d12 : decide (ram ≤ 12) = false := decide_eq_false c12
      go_enter Tryz.func106, Tryz.ntmps106
      go_wp2
      go_ret
      exact ⟨by simp [c8, c12], by repeat (first | with_reducible exact Kept.refl _ | with_reducible refine Kept.alloc ?_ _ | with_reducible refine Kept.drew ?_ | with_reducible refine Kept.drewN ?_)⟩
  · have d8 : decide (8 ≤ ram) = false := decide_eq_false c8
    go_enter Tryz.func106, Tryz.ntmps106
    go_wp2
    go_ret
    exact ⟨by simp [c8], by repeat (first | with_reducible exact Kept.refl _ | with_reducible refine Kept.alloc ?_ _ | with_reducible refine Kept.drew ?_ | with_reducible refine Kept.drewN ?_)⟩
end Go.Proofs.YtfmddnekooojkaaGreatDoor
namespace Go.Proofs.YtfmddnekooojkaaGreatDoor
open Go.RowKit
set_option linter.unusedVariables false
set_option linter.unusedSimpArgs false

set_option maxRecDepth 100000 in
theorem pwr10 (m : Mp) (a v : Int) (w : World) (a0 : 0 ≤ a) (a1 : a ≤ 65535) (v0 : 0 ≤ v) (v1 : v ≤ 255) (ha : a < 8192) :
    Calls Tryz.prog 102 #[mV m, .int .u16 a, .int .u8 v] w fun e w' => e = .returned (.agg #[.int .i64 m.kind, .bool (v % 16 == 10), .int .u8 m.low, .int .u8 m.high, .int .u8 m.ram, .bool m.mode]) ∧ Kept w w' := by
  obtain ⟨x1, x2, x3, x4, x5⟩ := ands v v0 v1
  have C := hid (fun u => opens_any v u v0 v1)
  have d0 : decide (a ≤ 8191) = true := decide_eq_true (by omega)
  have d1 : decide (a ≤ 12287) = true := decide_eq_true (by omega)
  have d2 : decide (a ≤ 16383) = true := decide_eq_true (by omega)
  have d3 : decide (a ≤ 24575) = true := decide_eq_true (by omega)
  have d4 : decide (a ≤ 32767) = true := decide_eq_true (by omega)
  clear ha
  go_enter Tryz.func102, Tryz.ntmps102
  go_wp2_with ((go_at_call 105; refine (C.out _).mono ?_; rintro e v1 ⟨rfl, rfl⟩))
  exact bodyPost_ret (v := .agg #[.int .i64 m.kind, .bool (v % 16 == 10), .int .u8 m.low, .int .u8 m.high, .int .u8 m.ram, .bool m.mode]) (by simp [results, Tryz.results102, go_sem]) rfl ⟨rfl, by repeat (first | with_reducible exact Kept.refl _ | with_reducible refine Kept.alloc ?_ _ | with_reducible refine Kept.setCell8 ?_ (Nat.le_refl _) _ _ | with_reducible refine Kept.setCell8 ?_ (Nat.le_succ _) _ _)⟩
set_option maxRecDepth 100000 in
theorem pwr11 (m : Mp) (a v : Int) (w : World) (a0 : 0 ≤ a) (a1 : a ≤ 65535) (v0 : 0 ≤ v) (v1 : v ≤ 255) (ha : 8192 ≤ a ∧ a < 12288) :
    Calls Tryz.prog 102 #[mV m, .int .u16 a, .int .u8 v] w fun e w' => e = .returned (.agg #[.int .i64 m.kind, .bool m.op, .int .u8 (v % 32), .int .u8 m.high, .int .u8 m.ram, .bool m.mode]) ∧ Kept w w' := by
  obtain ⟨x1, x2, x3, x4, x5⟩ := ands v v0 v1
  have C := hid (fun u => opens_any v u v0 v1)
  have d0 : decide (a ≤ 8191) = false := decide_eq_false (by omega)
  have d1 : decide (a ≤ 12287) = true := decide_eq_true (by omega)
  have d2 : decide (a ≤ 16383) = true := decide_eq_true (by omega)
  have d3 : decide (a ≤ 24575) = true := decide_eq_true (by omega)
  have d4 : decide (a ≤ 32767) = true := decide_eq_true (by omega)
  clear ha
  go_enter Tryz.func102, Tryz.ntmps102
  go_wp2_with ((go_at_call 105; refine (C.out _).mono ?_; rintro e v1 ⟨rfl, rfl⟩))
  exact bodyPost_ret (v := .agg #[.int .i64 m.kind, .bool m.op, .int .u8 (v % 32), .int .u8 m.high, .int .u8 m.ram, .bool m.mode]) (by simp [results, Tryz.results102, go_sem]) rfl ⟨rfl, by repeat (first | with_reducible exact Kept.refl _ | with_reducible refine Kept.alloc ?_ _ | with_reducible refine Kept.setCell8 ?_ (Nat.le_refl _) _ _ | with_reducible refine Kept.setCell8 ?_ (Nat.le_succ _) _ _)⟩
set_option maxRecDepth 100000 in
theorem pwr12 (m : Mp) (a v : Int) (w : World) (a0 : 0 ≤ a) (a1 : a ≤ 65535) (v0 : 0 ≤ v) (v1 : v ≤ 255) (ha : 12288 ≤ a ∧ a < 16384) :
    Calls Tryz.prog 102 #[mV m, .int .u16 a, .int .u8 v] w fun e w' => e = .returned (.agg #[.int .i64 m.kind, .bool m.op, .int .u8 (v % 32), .int .u8 m.high, .int .u8 m.ram, .bool m.mode]) ∧ Kept w w' := by
  obtain ⟨x1, x2, x3, x4, x5⟩ := ands v v0 v1
  have C := hid (fun u => opens_any v u v0 v1)
  have d0 : decide (a ≤ 8191) = false := decide_eq_false (by omega)
  have d1 : decide (a ≤ 12287) = false := decide_eq_false (by omega)
  have d2 : decide (a ≤ 16383) = true := decide_eq_true (by omega)
  have d3 : decide (a ≤ 24575) = true := decide_eq_true (by omega)
  have d4 : decide (a ≤ 32767) = true := decide_eq_true (by omega)
  clear ha
  go_enter Tryz.func102, Tryz.ntmps102
  go_wp2_with ((go_at_call 105; refine (C.out _).mono ?_; rintro e v1 ⟨rfl, rfl⟩))
  exact bodyPost_ret (v := .agg #[.int .i64 m.kind, .bool m.op, .int .u8 (v % 32), .int .u8 m.high, .int .u8 m.ram, .bool m.mode]) (by simp [results, Tryz.results102, go_sem]) rfl ⟨rfl, by repeat (first | with_reducible exact Kept.refl _ | with_reducible refine Kept.alloc ?_ _ | with_reducible refine Kept.setCell8 ?_ (Nat.le_refl _) _ _ | with_reducible refine Kept.setCell8 ?_ (Nat.le_succ _) _ _)⟩
set_option maxRecDepth 100000 in
theorem pwr13 (m : Mp) (a v : Int) (w : World) (a0 : 0 ≤ a) (a1 : a ≤ 65535) (v0 : 0 ≤ v) (v1 : v ≤ 255) (ha : 16384 ≤ a ∧ a < 24576) :
    Calls Tryz.prog 102 #[mV m, .int .u16 a, .int .u8 v] w fun e w' => e = .returned (.agg #[.int .i64 m.kind, .bool m.op, .int .u8 m.low, .int .u8 (v % 4), .int .u8 m.ram, .bool m.mode]) ∧ Kept w w' := by
  obtain ⟨x1, x2, x3, x4, x5⟩ := ands v v0 v1
  have C := hid (fun u => opens_any v u v0 v1)
  have d0 : decide (a ≤ 8191) = false := decide_eq_false (by omega)
  have d1 : decide (a ≤ 12287) = false := decide_eq_false (by omega)
  have d2 : decide (a ≤ 16383) = false := decide_eq_false (by omega)
  have d3 : decide (a ≤ 24575) = true := decide_eq_true (by omega)
  have d4 : decide (a ≤ 32767) = true := decide_eq_true (by omega)
  clear ha
  go_enter Tryz.func102, Tryz.ntmps102
  go_wp2_with ((go_at_call 105; refine (C.out _).mono ?_; rintro e v1 ⟨rfl, rfl⟩))
  exact bodyPost_ret (v := .agg #[.int .i64 m.kind, .bool m.op, .int .u8 m.low, .int .u8 (v % 4), .int .u8 m.ram, .bool m.mode]) (by simp [results, Tryz.results102, go_sem]) rfl ⟨rfl, by repeat (first | with_reducible exact Kept.refl _ | with_reducible refine Kept.alloc ?_ _ | with_reducible refine Kept.setCell8 ?_ (Nat.le_refl _) _ _ | with_reducible refine Kept.setCell8 ?_ (Nat.le_succ _) _ _)⟩
set_option maxRecDepth 100000 in
theorem pwr14 (m : Mp) (a v : Int) (w : World) (a0 : 0 ≤ a) (a1 : a ≤ 65535) (v0 : 0 ≤ v) (v1 : v ≤ 255) (ha : 24576 ≤ a ∧ a < 32768) :
    Calls Tryz.prog 102 #[mV m, .int .u16 a, .int .u8 v] w fun e w' => e = .returned (.agg #[.int .i64 m.kind, .bool m.op, .int .u8 m.low, .int .u8 m.high, .int .u8 m.ram, .bool (v % 2 == 1)]) ∧ Kept w w' := by
  obtain ⟨x1, x2, x3, x4, x5⟩ := ands v v0 v1
  have C := hid (fun u => opens_any v u v0 v1)
  have d0 : decide (a ≤ 8191) = false := decide_eq_false (by omega)
  have d1 : decide (a ≤ 12287) = false := decide_eq_false (by omega)
  have d2 : decide (a ≤ 16383) = false := decide_eq_false (by omega)
  have d3 : decide (a ≤ 24575) = false := decide_eq_false (by omega)
  have d4 : decide (a ≤ 32767) = true := decide_eq_true (by omega)
  clear ha
  go_enter Tryz.func102, Tryz.ntmps102
  go_wp2_with ((go_at_call 105; refine (C.out _).mono ?_; rintro e v1 ⟨rfl, rfl⟩))
  exact bodyPost_ret (v := .agg #[.int .i64 m.kind, .bool m.op, .int .u8 m.low, .int .u8 m.high, .int .u8 m.ram, .bool (v % 2 == 1)]) (by simp [results, Tryz.results102, go_sem]) rfl ⟨rfl, by repeat (first | with_reducible exact Kept.refl _ | with_reducible refine Kept.alloc ?_ _ | with_reducible refine Kept.setCell8 ?_ (Nat.le_refl _) _ _ | with_reducible refine Kept.setCell8 ?_ (Nat.le_succ _) _ _)⟩
set_option maxRecDepth 100000 in
theorem pwr15 (m : Mp) (a v : Int) (w : World) (a0 : 0 ≤ a) (a1 : a ≤ 65535) (v0 : 0 ≤ v) (v1 : v ≤ 255) (ha : 32768 ≤ a) :
    Calls Tryz.prog 102 #[mV m, .int .u16 a, .int .u8 v] w fun e w' => e = .returned (.agg #[.int .i64 m.kind, .bool m.op, .int .u8 m.low, .int .u8 m.high, .int .u8 m.ram, .bool m.mode]) ∧ Kept w w' := by
  obtain ⟨x1, x2, x3, x4, x5⟩ := ands v v0 v1
  have C := hid (fun u => opens_any v u v0 v1)
  have d0 : decide (a ≤ 8191) = false := decide_eq_false (by omega)
  have d1 : decide (a ≤ 12287) = false := decide_eq_false (by omega)
  have d2 : decide (a ≤ 16383) = false := decide_eq_false (by omega)
  have d3 : decide (a ≤ 24575) = false := decide_eq_false (by omega)
  have d4 : decide (a ≤ 32767) = false := decide_eq_false (by omega)
  clear ha
  go_enter Tryz.func102, Tryz.ntmps102
  go_wp2_with ((go_at_call 105; refine (C.out _).mono ?_; rintro e v1 ⟨rfl, rfl⟩))
  exact bodyPost_ret (v := .agg #[.int .i64 m.kind, .bool m.op, .int .u8 m.low, .int .u8 m.high, .int .u8 m.ram, .bool m.mode]) (by simp [results, Tryz.results102, go_sem]) rfl ⟨rfl, by repeat (first | with_reducible exact Kept.refl _ | with_reducible refine Kept.alloc ?_ _ | with_reducible refine Kept.setCell8 ?_ (Nat.le_refl _) _ _ | with_reducible refine Kept.setCell8 ?_ (Nat.le_succ _) _ _)⟩
set_option maxRecDepth 100000 in
theorem pwr30 (m : Mp) (a v : Int) (w : World) (a0 : 0 ≤ a) (a1 : a ≤ 65535) (v0 : 0 ≤ v) (v1 : v ≤ 255) (ha : a < 8192) :
    Calls Tryz.prog 110 #[mV m, .int .u16 a, .int .u8 v] w fun e w' => e = .returned (.agg #[.int .i64 m.kind, .bool (v % 16 == 10), .int .u8 m.low, .int .u8 m.high, .int .u8 m.ram, .bool m.mode]) ∧ Kept w w' := by
  obtain ⟨x1, x2, x3, x4, x5⟩ := ands v v0 v1
  have C := hid (fun u => opens_any v u v0 v1)
  have d0 : decide (a ≤ 8191) = true := decide_eq_true (by omega)
  have d1 : decide (a ≤ 12287) = true := decide_eq_true (by omega)
  have d2 : decide (a ≤ 16383) = true := decide_eq_true (by omega)
  have d3 : decide (a ≤ 24575) = true := decide_eq_true (by omega)
  have d4 : decide (a ≤ 32767) = true := decide_eq_true (by omega)
  clear ha
  go_enter Tryz.func110, Tryz.ntmps110
  go_wp2_with ((go_at_call 105; refine (C.out _).mono ?_; rintro e v1 ⟨rfl, rfl⟩))
  exact bodyPost_ret (v := .agg #[.int .i64 m.kind, .bool (v % 16 == 10), .int .u8 m.low, .int .u8 m.high, .int .u8 m.ram, .bool m.mode]) (by simp [results, Tryz.results110, go_sem]) rfl ⟨rfl, by repeat (first | with_reducible exact Kept.refl _ | with_reducible refine Kept.alloc ?_ _ | with_reducible refine Kept.setCell8 ?_ (Nat.le_refl _) _ _ | with_reducible refine Kept.setCell8 ?_ (Nat.le_succ _) _ _)⟩
set_option maxRecDepth 100000 in
theorem pwr31 (m : Mp) (a v : Int) (w : World) (a0 : 0 ≤ a) (a1 : a ≤ 65535) (v0 : 0 ≤ v) (v1 : v ≤ 255) (ha : 8192 ≤ a ∧ a < 12288) :
    Calls Tryz.prog 110 #[mV m, .int .u16 a, .int .u8 v] w fun e w' => e = .returned (.agg #[.int .i64 m.kind, .bool m.op, .int .u8 (v % 128), .int .u8 m.high, .int .u8 m.ram, .bool m.mode]) ∧ Kept w w' := by
  obtain ⟨x1, x2, x3, x4, x5⟩ := ands v v0 v1
  have C := hid (fun u => opens_any v u v0 v1)
  have d0 : decide (a ≤ 8191) = false := decide_eq_false (by omega)
  have d1 : decide (a ≤ 12287) = true := decide_eq_true (by omega)
  have d2 : decide (a ≤ 16383) = true := decide_eq_true (by omega)
  have d3 : decide (a ≤ 24575) = true := decide_eq_true (by omega)
  have d4 : decide (a ≤ 32767) = true := decide_eq_true (by omega)
  clear ha
  go_enter Tryz.func110, Tryz.ntmps110
  go_wp2_with ((go_at_call 105; refine (C.out _).mono ?_; rintro e v1 ⟨rfl, rfl⟩))
  exact bodyPost_ret (v := .agg #[.int .i64 m.kind, .bool m.op, .int .u8 (v % 128), .int .u8 m.high, .int .u8 m.ram, .bool m.mode]) (by simp [results, Tryz.results110, go_sem]) rfl ⟨rfl, by repeat (first | with_reducible exact Kept.refl _ | with_reducible refine Kept.alloc ?_ _ | with_reducible refine Kept.setCell8 ?_ (Nat.le_refl _) _ _ | with_reducible refine Kept.setCell8 ?_ (Nat.le_succ _) _ _)⟩
set_option maxRecDepth 100000 in
theorem pwr32 (m : Mp) (a v : Int) (w : World) (a0 : 0 ≤ a) (a1 : a ≤ 65535) (v0 : 0 ≤ v) (v1 : v ≤ 255) (ha : 12288 ≤ a ∧ a < 16384) :
    Calls Tryz.prog 110 #[mV m, .int .u16 a, .int .u8 v] w fun e w' => e = .returned (.agg #[.int .i64 m.kind, .bool m.op, .int .u8 (v % 128), .int .u8 m.high, .int .u8 m.ram, .bool m.mode]) ∧ Kept w w' := by
  obtain ⟨x1, x2, x3, x4, x5⟩ := ands v v0 v1
  have C := hid (fun u => opens_any v u v0 v1)
  have d0 : decide (a ≤ 8191) = false := decide_eq_false (by omega)
  have d1 : decide (a ≤ 12287) = false := decide_eq_false (by omega)
  have d2 : decide (a ≤ 16383) = true := decide_eq_true (by omega)
  have d3 : decide (a ≤ 24575) = true := decide_eq_true (by omega)
  have d4 : decide (a ≤ 32767) = true := decide_eq_true (by omega)
  clear ha
  go_enter Tryz.func110, Tryz.ntmps110
  go_wp2_with ((go_at_call 105; refine (C.out _).mono ?_; rintro e v1 ⟨rfl, rfl⟩))
  exact bodyPost_ret (v := .agg #[.int .i64 m.kind, .bool m.op, .int .u8 (v % 128), .int .u8 m.high, .int .u8 m.ram, .bool m.mode]) (by simp [results, Tryz.results110, go_sem]) rfl ⟨rfl, by repeat (first | with_reducible exact Kept.refl _ | with_reducible refine Kept.alloc ?_ _ | with_reducible refine Kept.setCell8 ?_ (Nat.le_refl _) _ _ | with_reducible refine Kept.setCell8 ?_ (Nat.le_succ _) _ _)⟩
set_option maxRecDepth 100000 in
theorem pwr33 (m : Mp) (a v : Int) (w : World) (a0 : 0 ≤ a) (a1 : a ≤ 65535) (v0 : 0 ≤ v) (v1 : v ≤ 255) (ha : 16384 ≤ a ∧ a < 24576) :
    Calls Tryz.prog 110 #[mV m, .int .u16 a, .int .u8 v] w fun e w' => e = .returned (.agg #[.int .i64 m.kind, .bool m.op, .int .u8 m.low, .int .u8 m.high, .int .u8 (v % 16), .bool m.mode]) ∧ Kept w w' := by
  obtain ⟨x1, x2, x3, x4, x5⟩ := ands v v0 v1
  have C := hid (fun u => opens_any v u v0 v1)
  have d0 : decide (a ≤ 8191) = false := decide_eq_false (by omega)
  have d1 : decide (a ≤ 12287) = false := decide_eq_false (by omega)
  have d2 : decide (a ≤ 16383) = false := decide_eq_false (by omega)
  have d3 : decide (a ≤ 24575) = true := decide_eq_true (by omega)
  have d4 : decide (a ≤ 32767) = true := decide_eq_true (by omega)
  clear ha
  go_enter Tryz.func110, Tryz.ntmps110
  go_wp2_with ((go_at_call 105; refine (C.out _).mono ?_; rintro e v1 ⟨rfl, rfl⟩))
  exact bodyPost_ret (v := .agg #[.int .i64 m.kind, .bool m.op, .int .u8 m.low, .int .u8 m.high, .int .u8 (v % 16), .bool m.mode]) (by simp [results, Tryz.results110, go_sem]) rfl ⟨rfl, by repeat (first | with_reducible exact Kept.refl _ | with_reducible refine Kept.alloc ?_ _ | with_reducible refine Kept.setCell8 ?_ (Nat.le_refl _) _ _ | with_reducible refine Kept.setCell8 ?_ (Nat.le_succ _) _ _)⟩
set_option maxRecDepth 100000 in
theorem pwr34 (m : Mp) (a v : Int) (w : World) (a0 : 0 ≤ a) (a1 : a ≤ 65535) (v0 : 0 ≤ v) (v1 : v ≤ 255) (ha : 24576 ≤ a ∧ a < 32768) :
    Calls Tryz.prog 110 #[mV m, .int .u16 a, .int .u8 v] w fun e w' => e = .returned (.agg #[.int .i64 m.kind, .bool m.op, .int .u8 m.low, .int .u8 m.high, .int .u8 m.ram, .bool m.mode]) ∧ Kept w w' := by
  obtain ⟨x1, x2, x3, x4, x5⟩ := ands v v0 v1
  have C := hid (fun u => opens_any v u v0 v1)
  have d0 : decide (a ≤ 8191) = false := decide_eq_false (by omega)
  have d1 : decide (a ≤ 12287) = false := decide_eq_false (by omega)
  have d2 : decide (a ≤ 16383) = false := decide_eq_false (by omega)
  have d3 : decide (a ≤ 24575) = false := decide_eq_false (by omega)
  have d4 : decide (a ≤ 32767) = true := decide_eq_true (by omega)
  clear ha
  go_enter Tryz.func110, Tryz.ntmps110
  go_wp2_with ((go_at_call 105; refine (C.out _).mono ?_; rintro e v1 ⟨rfl, rfl⟩))
  exact bodyPost_ret (v := .agg #[.int .i64 m.kind, .bool m.op, .int .u8 m.low, .int .u8 m.high, .int .u8 m.ram, .bool m.mode]) (by simp [results, Tryz.results110, go_sem]) rfl ⟨rfl, by repeat (first | with_reducible exact Kept.refl _ | with_reducible refine Kept.alloc ?_ _ | with_reducible refine Kept.setCell8 ?_ (Nat.le_refl _) _ _ | with_reducible refine Kept.setCell8 ?_ (Nat.le_succ _) _ _)⟩
set_option maxRecDepth 100000 in
theorem pwr35 (m : Mp) (a v : Int) (w : World) (a0 : 0 ≤ a) (a1 : a ≤ 65535) (v0 : 0 ≤ v) (v1 : v ≤ 255) (ha : 32768 ≤ a) :
    Calls Tryz.prog 110 #[mV m, .int .u16 a, .int .u8 v] w fun e w' => e = .returned (.agg #[.int .i64 m.kind, .bool m.op, .int .u8 m.low, .int .u8 m.high, .int .u8 m.ram, .bool m.mode]) ∧ Kept w w' := by
  obtain ⟨x1, x2, x3, x4, x5⟩ := ands v v0 v1
  have C := hid (fun u => opens_any v u v0 v1)
  have d0 : decide (a ≤ 8191) = false := decide_eq_false (by omega)
  have d1 : decide (a ≤ 12287) = false := decide_eq_false (by omega)
  have d2 : decide (a ≤ 16383) = false := decide_eq_false (by omega)
  have d3 : decide (a ≤ 24575) = false := decide_eq_false (by omega)
  have d4 : decide (a ≤ 32767) = false := decide_eq_false (by omega)
  clear ha
  go_enter Tryz.func110, Tryz.ntmps110
  go_wp2_with ((go_at_call 105; refine (C.out _).mono ?_; rintro e v1 ⟨rfl, rfl⟩))
  exact bodyPost_ret (v := .agg #[.int .i64 m.kind, .bool m.op, .int .u8 m.low, .int .u8 m.high, .int .u8 m.ram, .bool m.mode]) (by simp [results, Tryz.results110, go_sem]) rfl ⟨rfl, by repeat (first | with_reducible exact Kept.refl _ | with_reducible refine Kept.alloc ?_ _ | with_reducible refine Kept.setCell8 ?_ (Nat.le_refl _) _ _ | with_reducible refine Kept.setCell8 ?_ (Nat.le_succ _) _ _)⟩
set_option maxRecDepth 100000 in
theorem pwr50 (m : Mp) (a v : Int) (w : World) (a0 : 0 ≤ a) (a1 : a ≤ 65535) (v0 : 0 ≤ v) (v1 : v ≤ 255) (ha : a < 8192) :
    Calls Tryz.prog 115 #[mV m, .int .u16 a, .int .u8 v] w fun e w' => e = .returned (.agg #[.int .i64 m.kind, .bool (v == 10), .int .u8 m.low, .int .u8 m.high, .int .u8 m.ram, .bool m.mode]) ∧ Kept w w' := by
  obtain ⟨x1, x2, x3, x4, x5⟩ := ands v v0 v1
  have C := hid (fun u => opens_any v u v0 v1)
  have d0 : decide (a ≤ 8191) = true := decide_eq_true (by omega)
  have d1 : decide (a ≤ 12287) = true := decide_eq_true (by omega)
  have d2 : decide (a ≤ 16383) = true := decide_eq_true (by omega)
  have d3 : decide (a ≤ 24575) = true := decide_eq_true (by omega)
  have d4 : decide (a ≤ 32767) = true := decide_eq_true (by omega)
  clear ha
  go_enter Tryz.func115, Tryz.ntmps115
  go_wp2_with ((go_at_call 105; refine (C.out _).mono ?_; rintro e v1 ⟨rfl, rfl⟩))
  exact bodyPost_ret (v := .agg #[.int .i64 m.kind, .bool (v == 10), .int .u8 m.low, .int .u8 m.high, .int .u8 m.ram, .bool m.mode]) (by simp [results, Tryz.results115, go_sem]) rfl ⟨rfl, by repeat (first | with_reducible exact Kept.refl _ | with_reducible refine Kept.alloc ?_ _ | with_reducible refine Kept.setCell8 ?_ (Nat.le_refl _) _ _ | with_reducible refine Kept.setCell8 ?_ (Nat.le_succ _) _ _)⟩
set_option maxRecDepth 100000 in
theorem pwr51 (m : Mp) (a v : Int) (w : World) (a0 : 0 ≤ a) (a1 : a ≤ 65535) (v0 : 0 ≤ v) (v1 : v ≤ 255) (ha : 8192 ≤ a ∧ a < 12288) :
    Calls Tryz.prog 115 #[mV m, .int .u16 a, .int .u8 v] w fun e w' => e = .returned (.agg #[.int .i64 m.kind, .bool m.op, .int .u8 v, .int .u8 m.high, .int .u8 m.ram, .bool m.mode]) ∧ Kept w w' := by
  obtain ⟨x1, x2, x3, x4, x5⟩ := ands v v0 v1
  have C := hid (fun u => opens_any v u v0 v1)
  have d0 : decide (a ≤ 8191) = false := decide_eq_false (by omega)
  have d1 : decide (a ≤ 12287) = true := decide_eq_true (by omega)
  have d2 : decide (a ≤ 16383) = true := decide_eq_true (by omega)
  have d3 : decide (a ≤ 24575) = true := decide_eq_true (by omega)
  have d4 : decide (a ≤ 32767) = true := decide_eq_true (by omega)
  clear ha
  go_enter Tryz.func115, Tryz.ntmps115
  go_wp2_with ((go_at_call 105; refine (C.out _).mono ?_; rintro e v1 ⟨rfl, rfl⟩))
  exact bodyPost_ret (v := .agg #[.int .i64 m.kind, .bool m.op, .int .u8 v, .int .u8 m.high, .int .u8 m.ram, .bool m.mode]) (by simp [results, Tryz.results115, go_sem]) rfl ⟨rfl, by repeat (first | with_reducible exact Kept.refl _ | with_reducible refine Kept.alloc ?_ _ | with_reducible refine Kept.setCell8 ?_ (Nat.le_refl _) _ _ | with_reducible refine Kept.setCell8 ?_ (Nat.le_succ _) _ _)⟩
set_option maxRecDepth 100000 in
theorem pwr52 (m : Mp) (a v : Int) (w : World) (a0 : 0 ≤ a) (a1 : a ≤ 65535) (v0 : 0 ≤ v) (v1 : v ≤ 255) (ha : 12288 ≤ a ∧ a < 16384) :
    Calls Tryz.prog 115 #[mV m, .int .u16 a, .int .u8 v] w fun e w' => e = .returned (.agg #[.int .i64 m.kind, .bool m.op, .int .u8 m.low, .int .u8 (v % 2), .int .u8 m.ram, .bool m.mode]) ∧ Kept w w' := by
  obtain ⟨x1, x2, x3, x4, x5⟩ := ands v v0 v1
  have C := hid (fun u => opens_any v u v0 v1)
  have d0 : decide (a ≤ 8191) = false := decide_eq_false (by omega)
  have d1 : decide (a ≤ 12287) = false := decide_eq_false (by omega)
  have d2 : decide (a ≤ 16383) = true := decide_eq_true (by omega)
  have d3 : decide (a ≤ 24575) = true := decide_eq_true (by omega)
  have d4 : decide (a ≤ 32767) = true := decide_eq_true (by omega)
  clear ha
  go_enter Tryz.func115, Tryz.ntmps115
  go_wp2_with ((go_at_call 105; refine (C.out _).mono ?_; rintro e v1 ⟨rfl, rfl⟩))
  exact bodyPost_ret (v := .agg #[.int .i64 m.kind, .bool m.op, .int .u8 m.low, .int .u8 (v % 2), .int .u8 m.ram, .bool m.mode]) (by simp [results, Tryz.results115, go_sem]) rfl ⟨rfl, by repeat (first | with_reducible exact Kept.refl _ | with_reducible refine Kept.alloc ?_ _ | with_reducible refine Kept.setCell8 ?_ (Nat.le_refl _) _ _ | with_reducible refine Kept.setCell8 ?_ (Nat.le_succ _) _ _)⟩
set_option maxRecDepth 100000 in
theorem pwr53 (m : Mp) (a v : Int) (w : World) (a0 : 0 ≤ a) (a1 : a ≤ 65535) (v0 : 0 ≤ v) (v1 : v ≤ 255) (ha : 16384 ≤ a ∧ a < 24576) :
    Calls Tryz.prog 115 #[mV m, .int .u16 a, .int .u8 v] w fun e w' => e = .returned (.agg #[.int .i64 m.kind, .bool m.op, .int .u8 m.low, .int .u8 m.high, .int .u8 (v % 16), .bool m.mode]) ∧ Kept w w' := by
  obtain ⟨x1, x2, x3, x4, x5⟩ := ands v v0 v1
  have C := hid (fun u => opens_any v u v0 v1)
  have d0 : decide (a ≤ 8191) = false := decide_eq_false (by omega)
  have d1 : decide (a ≤ 12287) = false := decide_eq_false (by omega)
  have d2 : decide (a ≤ 16383) = false := decide_eq_false (by omega)
  have d3 : decide (a ≤ 24575) = true := decide_eq_true (by omega)
  have d4 : decide (a ≤ 32767) = true := decide_eq_true (by omega)
  clear ha
  go_enter Tryz.func115, Tryz.ntmps115
  go_wp2_with ((go_at_call 105; refine (C.out _).mono ?_; rintro e v1 ⟨rfl, rfl⟩))
  exact bodyPost_ret (v := .agg #[.int .i64 m.kind, .bool m.op, .int .u8 m.low, .int .u8 m.high, .int .u8 (v % 16), .bool m.mode]) (by simp [results, Tryz.results115, go_sem]) rfl ⟨rfl, by repeat (first | with_reducible exact Kept.refl _ | with_reducible refine Kept.alloc ?_ _ | with_reducible refine Kept.setCell8 ?_ (Nat.le_refl _) _ _ | with_reducible refine Kept.setCell8 ?_ (Nat.le_succ _) _ _)⟩
set_option maxRecDepth 100000 in
theorem pwr54 (m : Mp) (a v : Int) (w : World) (a0 : 0 ≤ a) (a1 : a ≤ 65535) (v0 : 0 ≤ v) (v1 : v ≤ 255) (ha : 24576 ≤ a ∧ a < 32768) :
    Calls Tryz.prog 115 #[mV m, .int .u16 a, .int .u8 v] w fun e w' => e = .returned (.agg #[.int .i64 m.kind, .bool m.op, .int .u8 m.low, .int .u8 m.high, .int .u8 m.ram, .bool m.mode]) ∧ Kept w w' := by
  obtain ⟨x1, x2, x3, x4, x5⟩ := ands v v0 v1
  have C := hid (fun u => opens_any v u v0 v1)
  have d0 : decide (a ≤ 8191) = false := decide_eq_false (by omega)
  have d1 : decide (a ≤ 12287) = false := decide_eq_false (by omega)
  have d2 : decide (a ≤ 16383) = false := decide_eq_false (by omega)
  have d3 : decide (a ≤ 24575) = false := decide_eq_false (by omega)
  have d4 : decide (a ≤ 32767) = true := decide_eq_true (by omega)
  clear ha
  go_enter Tryz.func115, Tryz.ntmps115
  go_wp2_with ((go_at_call 105; refine (C.out _).mono ?_; rintro e v1 ⟨rfl, rfl⟩))
  exact bodyPost_ret (v := .agg #[.int .i64 m.kind, .bool m.op, .int .u8 m.low, .int .u8 m.high, .int .u8 m.ram, .bool m.mode]) (by simp [results, Tryz.results115, go_sem]) rfl ⟨rfl, by repeat (first | with_reducible exact Kept.refl _ | with_reducible refine Kept.alloc ?_ _ | with_reducible refine Kept.setCell8 ?_ (Nat.le_refl _) _ _ | with_reducible refine Kept.setCell8 ?_ (Nat.le_succ _) _ _)⟩
set_option maxRecDepth 100000 in
theorem pwr55 (m : Mp) (a v : Int) (w : World) (a0 : 0 ≤ a) (a1 : a ≤ 65535) (v0 : 0 ≤ v) (v1 : v ≤ 255) (ha : 32768 ≤ a) :
    Calls Tryz.prog 115 #[mV m, .int .u16 a, .int .u8 v] w fun e w' => e = .returned (.agg #[.int .i64 m.kind, .bool m.op, .int .u8 m.low, .int .u8 m.high, .int .u8 m.ram, .bool m.mode]) ∧ Kept w w' := by
  obtain ⟨x1, x2, x3, x4, x5⟩ := ands v v0 v1
  have C := hid (fun u => opens_any v u v0 v1)
  have d0 : decide (a ≤ 8191) = false := decide_eq_false (by omega)
  have d1 : decide (a ≤ 12287) = false := decide_eq_false (by omega)
  have d2 : decide (a ≤ 16383) = false := decide_eq_false (by omega)
  have d3 : decide (a ≤ 24575) = false := decide_eq_false (by omega)
  have d4 : decide (a ≤ 32767) = false := decide_eq_false (by omega)
  clear ha
  go_enter Tryz.func115, Tryz.ntmps115
  go_wp2_with ((go_at_call 105; refine (C.out _).mono ?_; rintro e v1 ⟨rfl, rfl⟩))
  exact bodyPost_ret (v := .agg #[.int .i64 m.kind, .bool m.op, .int .u8 m.low, .int .u8 m.high, .int .u8 m.ram, .bool m.mode]) (by simp [results, Tryz.results115, go_sem]) rfl ⟨rfl, by repeat (first | with_reducible exact Kept.refl _ | with_reducible refine Kept.alloc ?_ _ | with_reducible refine Kept.setCell8 ?_ (Nat.le_refl _) _ _ | with_reducible refine Kept.setCell8 ?_ (Nat.le_succ _) _ _)⟩
set_option maxRecDepth 100000 in
theorem pwr0 (m : Mp) (a v : Int) (w : World) :
    Calls Tryz.prog 120 #[mV m, .int .u16 a, .int .u8 v] w fun e w' => e = .returned (mV m) ∧ Kept w w' := by
  go_enter Tryz.func120, Tryz.ntmps120
  go_wp2
  exact bodyPost_ret (v := mV m) (by simp [results, Tryz.results120, go_sem]) rfl ⟨rfl, by repeat (first | with_reducible exact Kept.refl _ | with_reducible refine Kept.alloc ?_ _ | with_reducible refine Kept.setCell8 ?_ (Nat.le_refl _) _ _ | with_reducible refine Kept.setCell8 ?_ (Nat.le_succ _) _ _)⟩
end Go.Proofs.YtfmddnekooojkaaGreatDoor
namespace Go.Proofs.YtfmddnekooojkaaGreatDoor
open Go.RowKit
set_option linter.unusedVariables false
set_option linter.unusedSimpArgs false

theorem pwr1_any (m : Mp) (a v : Int) (w : World) (a0 : 0 ≤ a) (a1 : a ≤ 65535) (v0 : 0 ≤ v) (v1 : v ≤ 255) :
    Calls Tryz.prog 102 #[mV m, .int .u16 a, .int .u8 v] w fun e w' => e = .returned (mV (write1 m v (zone a))) ∧ Kept w w' := by
  rcases zone_of a with ⟨z, ha⟩ | ⟨z, ha⟩ | ⟨z, ha⟩ | ⟨z, ha⟩ | ⟨z, ha⟩ | ⟨z, ha⟩
  · rw [z]; exact pwr10 m a v w a0 a1 v0 v1 ha
  · rw [z]; exact pwr11 m a v w a0 a1 v0 v1 ha
  · rw [z]; exact pwr12 m a v w a0 a1 v0 v1 ha
  · rw [z]; exact pwr13 m a v w a0 a1 v0 v1 ha
  · rw [z]; exact pwr14 m a v w a0 a1 v0 v1 ha
  · rw [z]; exact pwr15 m a v w a0 a1 v0 v1 ha
theorem pwr3_any (m : Mp) (a v : Int) (w : World) (a0 : 0 ≤ a) (a1 : a ≤ 65535) (v0 : 0 ≤ v) (v1 : v ≤ 255) :
    Calls Tryz.prog 110 #[mV m, .int .u16 a, .int .u8 v] w fun e w' => e = .returned (mV (write3 m v (zone a))) ∧ Kept w w' := by
  rcases zone_of a with ⟨z, ha⟩ | ⟨z, ha⟩ | ⟨z, ha⟩ | ⟨z, ha⟩ | ⟨z, ha⟩ | ⟨z, ha⟩
  · rw [z]; exact pwr30 m a v w a0 a1 v0 v1 ha
  · rw [z]; exact pwr31 m a v w a0 a1 v0 v1 ha
  · rw [z]; exact pwr32 m a v w a0 a1 v0 v1 ha
  · rw [z]; exact pwr33 m a v w a0 a1 v0 v1 ha
  · rw [z]; exact pwr34 m a v w a0 a1 v0 v1 ha
  · rw [z]; exact pwr35 m a v w a0 a1 v0 v1 ha
theorem pwr5_any (m : Mp) (a v : Int) (w : World) (a0 : 0 ≤ a) (a1 : a ≤ 65535) (v0 : 0 ≤ v) (v1 : v ≤ 255) :
    Calls Tryz.prog 115 #[mV m, .int .u16 a, .int .u8 v] w fun e w' => e = .returned (mV (write5 m v (zone a))) ∧ Kept w w' := by
  rcases zone_of a with ⟨z, ha⟩ | ⟨z, ha⟩ | ⟨z, ha⟩ | ⟨z, ha⟩ | ⟨z, ha⟩ | ⟨z, ha⟩
  · rw [z]; exact pwr50 m a v w a0 a1 v0 v1 ha
  · rw [z]; exact pwr51 m a v w a0 a1 v0 v1 ha
  · rw [z]; exact pwr52 m a v w a0 a1 v0 v1 ha
  · rw [z]; exact pwr53 m a v w a0 a1 v0 v1 ha
  · rw [z]; exact pwr54 m a v w a0 a1 v0 v1 ha
  · rw [z]; exact pwr55 m a v w a0 a1 v0 v1 ha
set_option maxRecDepth 100000 in
theorem mwrite_any (m : Mp) (a v : Int) (w : World) (a0 : 0 ≤ a) (a1 : a ≤ 65535) (v0 : 0 ≤ v) (v1 : v ≤ 255) (M : MpIn m) : Calls Tryz.prog 62 #[mpV m, .int .u16 a, .int .u8 v] w fun e w' => e = .returned (mpV (writeM m a v)) ∧ Kept w w' := by
  rcases kinds_of m.kind with h | h | h | ⟨n1, n3, n5⟩
  · have E : writeM m a v = write1 m v (zone a) := by unfold writeM writeZ; rw [if_pos h]
    rw [E]
    have C1 := hid (fun u => chipOf1_any m u h)
    have C2 := hid (fun u => pwr1_any m a v u a0 a1 v0 v1)
    clear E h
    generalize write1 m v (zone a) = R at *
    go_enter Tryz.func62, Tryz.ntmps62
    go_wp2_with fail
    refine (C1.out _).mono ?_
    rintro e u1 ⟨rfl, k1⟩
    obtain ⟨hA, fA⟩ := mine ((alloc1 w _ _).alloc _ _) k1 (has_alloc (w.alloc (.cells #[.int .i64 m.kind, .bool m.op, .int .u8 m.low, .int .u8 m.high, .int .u8 m.ram, .bool m.mode] 33)) #[.int .i64 0, .bool false, .int .u8 0, .int .u8 0, .int .u8 0, .bool false] 33) (by simp)
    have K1 := hid ((((Kept.refl w).alloc _).alloc _).trans k1)
    simp only [World.size_alloc] at hA fA
    have HA := hid hA
    have FA := hid fA
    clear k1 hA fA
    go_wp2_with fail
    refine (C2.out _).mono ?_
    rintro e u2 ⟨rfl, k2⟩
    have K2 := hid (K1.out.trans k2)
    have hA := hasK k2 HA.out
    have fA := frozK k2 HA.out.1 FA.out
    have b0 := hA.2 0
    have b1 := hA.2 1
    have b2 := hA.2 2
    have b3 := hA.2 3
    have b4 := hA.2 4
    have b5 := hA.2 5
    simp at b0 b1 b2 b3 b4 b5
    have zA := hA.1
    clear k2 hA
    go_wp2
    exact bodyPost_ret (v := mpV R) (by simp [results, Tryz.results62, go_sem, b0, b1, b2, b3, b4, b5, zA]) rfl ⟨rfl, by repeat (first | with_reducible exact K2.out | with_reducible refine Kept.drew ?_ | with_reducible refine Kept.alloc ?_ _ | with_reducible refine Kept.setCell8 ?_ (Nat.le_refl _) _ _ | with_reducible refine Kept.setCell8 ?_ (Nat.le_succ _) _ _)⟩
  · have E : writeM m a v = write3 m v (zone a) := by unfold writeM writeZ; rw [if_neg (by omega), if_pos h]
    rw [E]
    have C1 := hid (fun u => chipOf3_any m u h)
    have C2 := hid (fun u => pwr3_any m a v u a0 a1 v0 v1)
    clear E h
    generalize write3 m v (zone a) = R at *
    go_enter Tryz.func62, Tryz.ntmps62
    go_wp2_with fail
    refine (C1.out _).mono ?_
    rintro e u1 ⟨rfl, k1⟩
    obtain ⟨hA, fA⟩ := mine ((alloc1 w _ _).alloc _ _) k1 (has_alloc (w.alloc (.cells #[.int .i64 m.kind, .bool m.op, .int .u8 m.low, .int .u8 m.high, .int .u8 m.ram, .bool m.mode] 33)) #[.int .i64 0, .bool false, .int .u8 0, .int .u8 0, .int .u8 0, .bool false] 33) (by simp)
    have K1 := hid ((((Kept.refl w).alloc _).alloc _).trans k1)
    simp only [World.size_alloc] at hA fA
    have HA := hid hA
    have FA := hid fA
    clear k1 hA fA
    go_wp2_with fail
    refine (C2.out _).mono ?_
    rintro e u2 ⟨rfl, k2⟩
    have K2 := hid (K1.out.trans k2)
    have hA := hasK k2 HA.out
    have fA := frozK k2 HA.out.1 FA.out
    have b0 := hA.2 0
    have b1 := hA.2 1
    have b2 := hA.2 2
    have b3 := hA.2 3
    have b4 := hA.2 4
    have b5 := hA.2 5
    simp at b0 b1 b2 b3 b4 b5
    have zA := hA.1
    clear k2 hA
    go_wp2
    exact bodyPost_ret (v := mpV R) (by simp [results, Tryz.results62, go_sem, b0, b1, b2, b3, b4, b5, zA]) rfl ⟨rfl, by repeat (first | with_reducible exact K2.out | with_reducible refine Kept.drew ?_ | with_reducible refine Kept.alloc ?_ _ | with_reducible refine Kept.setCell8 ?_ (Nat.le_refl _) _ _ | with_reducible refine Kept.setCell8 ?_ (Nat.le_succ _) _ _)⟩
  · have E : writeM m a v = write5 m v (zone a) := by unfold writeM writeZ; rw [if_neg (by omega), if_neg (by omega), if_pos h]
    rw [E]
    have C1 := hid (fun u => chipOf5_any m u h)
    have C2 := hid (fun u => pwr5_any m a v u a0 a1 v0 v1)
    clear E h
    generalize write5 m v (zone a) = R at *
    go_enter Tryz.func62, Tryz.ntmps62
    go_wp2_with fail
    refine (C1.out _).mono ?_
    rintro e u1 ⟨rfl, k1⟩
    obtain ⟨hA, fA⟩ := mine ((alloc1 w _ _).alloc _ _) k1 (has_alloc (w.alloc (.cells #[.int .i64 m.kind, .bool m.op, .int .u8 m.low, .int .u8 m.high, .int .u8 m.ram, .bool m.mode] 33)) #[.int .i64 0, .bool false, .int .u8 0, .int .u8 0, .int .u8 0, .bool false] 33) (by simp)
    have K1 := hid ((((Kept.refl w).alloc _).alloc _).trans k1)
    simp only [World.size_alloc] at hA fA
    have HA := hid hA
    have FA := hid fA
    clear k1 hA fA
    go_wp2_with fail
    refine (C2.out _).mono ?_
    rintro e u2 ⟨rfl, k2⟩
    have K2 := hid (K1.out.trans k2)
    have hA := hasK k2 HA.out
    have fA := frozK k2 HA.out.1 FA.out
    have b0 := hA.2 0
    have b1 := hA.2 1
    have b2 := hA.2 2
    have b3 := hA.2 3
    have b4 := hA.2 4
    have b5 := hA.2 5
    simp at b0 b1 b2 b3 b4 b5
    have zA := hA.1
    clear k2 hA
    go_wp2
    exact bodyPost_ret (v := mpV R) (by simp [results, Tryz.results62, go_sem, b0, b1, b2, b3, b4, b5, zA]) rfl ⟨rfl, by repeat (first | with_reducible exact K2.out | with_reducible refine Kept.drew ?_ | with_reducible refine Kept.alloc ?_ _ | with_reducible refine Kept.setCell8 ?_ (Nat.le_refl _) _ _ | with_reducible refine Kept.setCell8 ?_ (Nat.le_succ _) _ _)⟩
  · have E : writeM m a v = m := by unfold writeM writeZ; rw [if_neg n1, if_neg n3, if_neg n5]
    rw [E]
    have C1 := hid (fun u => chipOf0_any m u n1 n3 n5)
    have C2 := hid (fun u => pwr0 m a v u)
    clear E n1 n3 n5
    skip
    go_enter Tryz.func62, Tryz.ntmps62
    go_wp2_with fail
    refine (C1.out _).mono ?_
    rintro e u1 ⟨rfl, k1⟩
    obtain ⟨hA, fA⟩ := mine ((alloc1 w _ _).alloc _ _) k1 (has_alloc (w.alloc (.cells #[.int .i64 m.kind, .bool m.op, .int .u8 m.low, .int .u8 m.high, .int .u8 m.ram, .bool m.mode] 33)) #[.int .i64 0, .bool false, .int .u8 0, .int .u8 0, .int .u8 0, .bool false] 33) (by simp)
    have K1 := hid ((((Kept.refl w).alloc _).alloc _).trans k1)
    simp only [World.size_alloc] at hA fA
    have HA := hid hA
    have FA := hid fA
    clear k1 hA fA
    go_wp2_with fail
    refine (C2.out _).mono ?_
    rintro e u2 ⟨rfl, k2⟩
    have K2 := hid (K1.out.trans k2)
    have hA := hasK k2 HA.out
    have fA := frozK k2 HA.out.1 FA.out
    have b0 := hA.2 0
    have b1 := hA.2 1
    have b2 := hA.2 2
    have b3 := hA.2 3
    have b4 := hA.2 4
    have b5 := hA.2 5
    simp at b0 b1 b2 b3 b4 b5
    have zA := hA.1
    clear k2 hA
    go_wp2
    exact bodyPost_ret (v := mpV m) (by simp [results, Tryz.results62, go_sem, b0, b1, b2, b3, b4, b5, zA]) rfl ⟨rfl, by repeat (first | with_reducible exact K2.out | with_reducible refine Kept.drew ?_ | with_reducible refine Kept.alloc ?_ _ | with_reducible refine Kept.setCell8 ?_ (Nat.le_refl _) _ _ | with_reducible refine Kept.setCell8 ?_ (Nat.le_succ _) _ _)⟩
end Go.Proofs.YtfmddnekooojkaaGreatDoor
