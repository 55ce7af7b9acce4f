/- What the smaller calls of the program's mapper come to. -/
import Derived.Handy
import Derived.Deep.QuietTactic
import Derived.BigQuiet
import Derived.Deep.RegionHeld3
import Derived.Test.YtoehmmieceobeabChecked
import Derived.Test.YtoehmmieceobeabMp8
import Derived.Test.YtoehmmieceobeabK8
import Derived.Test.YtoehmmieceobeabGrow2
namespace Go.Proofs.Ytoehmmieceobeab
open Go.RowKit
set_option linter.unusedVariables false
set_option linter.unusedSimpArgs false

abbrev mV (m : Mp) : Value := .agg #[.int .i64 m.kind, .bool m.op, .int .u8 m.low, .int .u8 m.high, .int .u8 m.ram, .bool m.mode]
theorem ands_fin : ∀ a : Fin 256, bits .and .u8 (a.val : Int) 31 = (a.val : Int) % 32 ∧ bits .and .u8 (a.val : Int) 3 = (a.val : Int) % 4 ∧ bits .and .u8 (a.val : Int) 1 = (a.val : Int) % 2 ∧ bits .and .u8 (a.val : Int) 127 = (a.val : Int) % 128 ∧ bits .and .u8 (a.val : Int) 15 = (a.val : Int) % 16 := by decide +kernel
theorem ands (v : Int) (v0 : 0 ≤ v) (v1 : v ≤ 255) : bits .and .u8 v 31 = v % 32 ∧ bits .and .u8 v 3 = v % 4 ∧ bits .and .u8 v 1 = v % 2 ∧ bits .and .u8 v 127 = v % 128 ∧ bits .and .u8 v 15 = v % 16 :=
  fin8 (p := fun v => bits .and .u8 v 31 = v % 32 ∧ bits .and .u8 v 3 = v % 4 ∧ bits .and .u8 v 1 = v % 2 ∧ bits .and .u8 v 127 = v % 128 ∧ bits .and .u8 v 15 = v % 16) ands_fin v v0 v1
theorem opens_any (v : Int) (w : World) (v0 : 0 ≤ v) (v1 : v ≤ 255) : Calls Try.prog 35 #[.int .u8 v] w fun e w' => e = .returned (.bool (v % 16 == 10)) ∧ w' = w := by
  obtain ⟨_, _, _, _, e⟩ := ands v v0 v1
  go_enter Try.func35, Try.ntmps35
  go_wp2
  go_ret
  exact ⟨rfl, rfl⟩
theorem notZero_any (v : Int) (w : World) (v0 : 0 ≤ v) (v1 : v ≤ 255) : Calls Try.prog 34 #[.int .u8 v] w fun e w' => e = .returned (.int .i64 (one v)) ∧ w' = w := by
  have wv : IntKind.i64.wrap v = v := by rw [IntKind.wrap_i64]; omega
  by_cases c : 1 < v
  · have E := hid (show one v = v by unfold one; rw [if_neg (by omega)])
    generalize one v = o at *
    go_enter Try.func34, Try.ntmps34
    go_wp2
    go_ret
    exact ⟨by rw [E.out]; rfl, rfl⟩
  · have E := hid (show one v = 1 by unfold one; split <;> omega)
    generalize one v = o at *
    go_enter Try.func34, Try.ntmps34
    go_wp2
    go_ret
    exact ⟨by rw [E.out]; rfl, rfl⟩
theorem inWindow_any (a : Int) (w : World) : Calls Try.prog 12 #[.int .u16 a] w fun e w' => e = .returned (.bool (inWin a)) ∧ w' = w := by
  unfold inWin
  go_enter Try.func12, Try.ntmps12
  by_cases h : 40960 ≤ a
  · have h2 : decide (40960 ≤ a) = true := decide_eq_true h
    rw [h2]
    go_wp2
    go_ret
    exact ⟨by congr 2; simp; omega, rfl⟩
  · have h2 : decide (40960 ≤ a) = false := decide_eq_false h
    rw [h2]
    go_wp2
    go_ret
    exact ⟨by simp, rfl⟩
set_option maxRecDepth 100000 in
theorem chipOf1_any (m : Mp) (w : World) (h : m.kind = 1) : Calls Try.prog 11 #[mV m] w fun e w' => e = .returned (.iface 41 (mV m)) ∧ Kept w w' := by
  have b1 : (m.kind == 1) = true := by simpa using h
  have b3 : (m.kind == 3) = false := by rw [h]; rfl
  have b5 : (m.kind == 5) = false := by rw [h]; rfl
  clear h
  go_enter Try.func11, Try.ntmps11
  go_wp2
  go_ret
  exact ⟨rfl, by repeat (first | with_reducible exact Kept.refl _ | with_reducible refine Kept.alloc ?_ _ | with_reducible refine Kept.drew ?_ | with_reducible refine Kept.drewN ?_)⟩
set_option maxRecDepth 100000 in
theorem chipOf3_any (m : Mp) (w : World) (h : m.kind = 3) : Calls Try.prog 11 #[mV m] w fun e w' => e = .returned (.iface 42 (mV m)) ∧ Kept w w' := by
  have b3 : (m.kind == 3) = true := by simpa using h
  have b1 : (m.kind == 1) = false := by rw [h]; rfl
  have b5 : (m.kind == 5) = false := by rw [h]; rfl
  clear h
  go_enter Try.func11, Try.ntmps11
  go_wp2
  go_ret
  exact ⟨rfl, by repeat (first | with_reducible exact Kept.refl _ | with_reducible refine Kept.alloc ?_ _ | with_reducible refine Kept.drew ?_ | with_reducible refine Kept.drewN ?_)⟩
set_option maxRecDepth 100000 in
theorem chipOf5_any (m : Mp) (w : World) (h : m.kind = 5) : Calls Try.prog 11 #[mV m] w fun e w' => e = .returned (.iface 43 (mV m)) ∧ Kept w w' := by
  have b5 : (m.kind == 5) = true := by simpa using h
  have b1 : (m.kind == 1) = false := by rw [h]; rfl
  have b3 : (m.kind == 3) = false := by rw [h]; rfl
  clear h
  go_enter Try.func11, Try.ntmps11
  go_wp2
  go_ret
  exact ⟨rfl, by repeat (first | with_reducible exact Kept.refl _ | with_reducible refine Kept.alloc ?_ _ | with_reducible refine Kept.drew ?_ | with_reducible refine Kept.drewN ?_)⟩
set_option maxRecDepth 100000 in
theorem chipOf0_any (m : Mp) (w : World) (n1 : m.kind ≠ 1) (n3 : m.kind ≠ 3) (n5 : m.kind ≠ 5) : Calls Try.prog 11 #[mV m] w fun e w' => e = .returned (.iface 44 (mV m)) ∧ Kept w w' := by
  have b1 : (m.kind == 1) = false := by simpa using n1
  have b3 : (m.kind == 3) = false := by simpa using n3
  have b5 : (m.kind == 5) = false := by simpa using n5
  go_enter Try.func11, Try.ntmps11
  go_wp2
  go_ret
  exact ⟨rfl, by repeat (first | with_reducible exact Kept.refl _ | with_reducible refine Kept.alloc ?_ _ | with_reducible refine Kept.drew ?_ | with_reducible refine Kept.drewN ?_)⟩
set_option maxRecDepth 100000 in
theorem upper1_any (m : Mp) (w : World) (M : MpIn m) : Calls Try.prog 33 #[mV m] w fun e w' => e = .returned (.int .i64 (32 * m.high)) ∧ Kept w w' := by
  have e1 := M.l0; have e2 := M.l1; have e3 := M.h0; have e4 := M.h1; have e5 := M.r0; have e6 := M.r1
  have wh : IntKind.i64.wrap (m.high) = m.high := by rw [IntKind.wrap_i64]; omega
  have wu : IntKind.i64.wrap (32 * m.high) = 32 * m.high := by rw [IntKind.wrap_i64]; omega
  go_enter Try.func33, Try.ntmps33
  go_wp2
  go_ret
  exact ⟨rfl, by repeat (first | with_reducible exact Kept.refl _ | with_reducible refine Kept.alloc ?_ _ | with_reducible refine Kept.drew ?_ | with_reducible refine Kept.drewN ?_)⟩
set_option maxRecDepth 100000 in
theorem clockReg1_any (m : Mp) (w : World) : Calls Try.prog 28 #[mV m] w fun e w' => e = .returned (.int .i64 0) ∧ Kept w w' := by
  go_enter Try.func28, Try.ntmps28
  go_wp2
  go_ret
  exact ⟨rfl, by repeat (first | with_reducible exact Kept.refl _ | with_reducible refine Kept.alloc ?_ _ | with_reducible refine Kept.drew ?_ | with_reducible refine Kept.drewN ?_)⟩
set_option maxRecDepth 100000 in
theorem clockReg5_any (m : Mp) (w : World) : Calls Try.prog 41 #[mV m] w fun e w' => e = .returned (.int .i64 0) ∧ Kept w w' := by
  go_enter Try.func41, Try.ntmps41
  go_wp2
  go_ret
  exact ⟨rfl, by repeat (first | with_reducible exact Kept.refl _ | with_reducible refine Kept.alloc ?_ _ | with_reducible refine Kept.drew ?_ | with_reducible refine Kept.drewN ?_)⟩
set_option maxRecDepth 100000 in
theorem clockReg0_any (m : Mp) (w : World) : Calls Try.prog 46 #[mV m] w fun e w' => e = .returned (.int .i64 0) ∧ Kept w w' := by
  go_enter Try.func46, Try.ntmps46
  go_wp2
  go_ret
  exact ⟨rfl, by repeat (first | with_reducible exact Kept.refl _ | with_reducible refine Kept.alloc ?_ _ | with_reducible refine Kept.drew ?_ | with_reducible refine Kept.drewN ?_)⟩
set_option maxRecDepth 100000 in
theorem lowBank3_any (m : Mp) (w : World) : Calls Try.prog 38 #[mV m] w fun e w' => e = .returned (.int .i64 0) ∧ Kept w w' := by
  go_enter Try.func38, Try.ntmps38
  go_wp2
  go_ret
  exact ⟨rfl, by repeat (first | with_reducible exact Kept.refl _ | with_reducible refine Kept.alloc ?_ _ | with_reducible refine Kept.drew ?_ | with_reducible refine Kept.drewN ?_)⟩
set_option maxRecDepth 100000 in
theorem lowBank5_any (m : Mp) (w : World) : Calls Try.prog 43 #[mV m] w fun e w' => e = .returned (.int .i64 0) ∧ Kept w w' := by
  go_enter Try.func43, Try.ntmps43
  go_wp2
  go_ret
  exact ⟨rfl, by repeat (first | with_reducible exact Kept.refl _ | with_reducible refine Kept.alloc ?_ _ | with_reducible refine Kept.drew ?_ | with_reducible refine Kept.drewN ?_)⟩
set_option maxRecDepth 100000 in
theorem lowBank0_any (m : Mp) (w : World) : Calls Try.prog 48 #[mV m] w fun e w' => e = .returned (.int .i64 0) ∧ Kept w w' := by
  go_enter Try.func48, Try.ntmps48
  go_wp2
  go_ret
  exact ⟨rfl, by repeat (first | with_reducible exact Kept.refl _ | with_reducible refine Kept.alloc ?_ _ | with_reducible refine Kept.drew ?_ | with_reducible refine Kept.drewN ?_)⟩
set_option maxRecDepth 100000 in
theorem highBank0_any (m : Mp) (w : World) : Calls Try.prog 47 #[mV m] w fun e w' => e = .returned (.int .i64 1) ∧ Kept w w' := by
  go_enter Try.func47, Try.ntmps47
  go_wp2
  go_ret
  exact ⟨rfl, by repeat (first | with_reducible exact Kept.refl _ | with_reducible refine Kept.alloc ?_ _ | with_reducible refine Kept.drew ?_ | with_reducible refine Kept.drewN ?_)⟩
set_option maxRecDepth 100000 in
theorem ramBank0_any (m : Mp) (w : World) : Calls Try.prog 49 #[mV m] w fun e w' => e = .returned (.tuple #[.int .i64 0, .bool true]) ∧ Kept w w' := by
  go_enter Try.func49, Try.ntmps49
  go_wp2
  go_ret2
  exact ⟨rfl, by repeat (first | with_reducible exact Kept.refl _ | with_reducible refine Kept.alloc ?_ _ | with_reducible refine Kept.drew ?_ | with_reducible refine Kept.drewN ?_)⟩
set_option maxRecDepth 100000 in
theorem highBank5_any (m : Mp) (w : World) (M : MpIn m) : Calls Try.prog 42 #[mV m] w fun e w' => e = .returned (.int .i64 (256 * m.high + m.low)) ∧ Kept w w' := by
  have e1 := M.l0; have e2 := M.l1; have e3 := M.h0; have e4 := M.h1; have e5 := M.r0; have e6 := M.r1
  have wh : IntKind.i64.wrap (m.high) = m.high := by rw [IntKind.wrap_i64]; omega
  have wu : IntKind.i64.wrap (256 * m.high) = 256 * m.high := by rw [IntKind.wrap_i64]; omega
  have wl : IntKind.i64.wrap (m.low) = m.low := by rw [IntKind.wrap_i64]; omega
  have wt : IntKind.i64.wrap (256 * m.high + m.low) = 256 * m.high + m.low := by rw [IntKind.wrap_i64]; omega
  go_enter Try.func42, Try.ntmps42
  go_wp2
  go_ret
  exact ⟨rfl, by repeat (first | with_reducible exact Kept.refl _ | with_reducible refine Kept.alloc ?_ _ | with_reducible refine Kept.drew ?_ | with_reducible refine Kept.drewN ?_)⟩
set_option maxRecDepth 100000 in
theorem ramBank5_any (m : Mp) (w : World) (M : MpIn m) : Calls Try.prog 44 #[mV m] w fun e w' => e = .returned (.tuple #[.int .i64 m.ram, .bool m.op]) ∧ Kept w w' := by
  have e1 := M.l0; have e2 := M.l1; have e3 := M.h0; have e4 := M.h1; have e5 := M.r0; have e6 := M.r1
  have wr : IntKind.i64.wrap (m.ram) = m.ram := by rw [IntKind.wrap_i64]; omega
  go_enter Try.func44, Try.ntmps44
  go_wp2
  go_quiet (fail)
  go_wp2
  go_ret2
  exact ⟨rfl, by repeat (first | with_reducible exact Kept.refl _ | with_reducible refine Kept.alloc ?_ _ | with_reducible refine Kept.drew ?_ | with_reducible refine Kept.drewN ?_)⟩
end Go.Proofs.Ytoehmmieceobeab
