/- What Ram and Reg of the program's mapper come to. -/
import Derived.Test.YtfmddnekooojkaaGreatDoorG19
namespace Go.Proofs.YtfmddnekooojkaaGreatDoor
open Go.RowKit
set_option linter.unusedVariables false
set_option linter.unusedSimpArgs false

theorem ramBank1_is (m : Mp) (w : World) (M : MpIn m) (h : m.kind = 1) : Calls Tryz.prog 101 #[mV m] w fun e w' => e = .returned (.tuple #[.int .i64 (ramB m), .bool (!ramNo m)]) ∧ Kept w w' := by
  have E1 : ramB m = (if m.mode then m.high else 0) := by unfold ramB; rw [if_pos h]
  have E2 : (!ramNo m) = m.op := by unfold ramNo; rw [if_pos h]; simp
  rw [E1, E2]
  exact ramBank1_any m w M
set_option maxRecDepth 100000 in
set_option maxHeartbeats 4000000 in
theorem mram1 (m : Mp) (a s : Int) (w : World) (a0 : 0 ≤ a) (a1 : a ≤ 65535) (s0 : -9223372036854775808 ≤ s) (s1 : s ≤ 9223372036854775807) (M : MpIn m) (h : m.kind = 1) : Calls Tryz.prog 57 #[mpV m, .int .u16 a, .int .i64 s] w fun e w' => e = .returned (.int .i64 (ramM m a s)) ∧ Kept w w' := by
  have C1 := hid (fun u => chipOf1_any m u h)
  have C2 := hid (fun u => ramBank1_is m u M h)
  have C3 := hid (fun u => inWindow_any a u)
  have E := hid (show ramM m a s = if s < 1 ∨ inWin a = false ∨ ramNo m = true then -1 else (8192 * ramB m + a - 40960) % s from rfl)
  obtain ⟨b0, b1⟩ := ramB_bd m M
  have W : inWin a = true → 40960 ≤ a ∧ a ≤ 49151 := by intro hw; unfold inWin at hw; simpa using hw
  generalize ramM m a s = Q at *
  generalize ramB m = b at *
  generalize ramNo m = no at *
  generalize inWin a = win at *
  have wa : IntKind.i64.wrap a = a := by rw [IntKind.wrap_i64]; omega
  clear M h
  by_cases c1 : s < 1
  · have d1 : decide (s < 1) = true := decide_eq_true c1
    have E2 := hid (show Q = -1 by rw [E.out, if_pos (.inl c1)])
    clear E W
    go_enter Tryz.func57, Tryz.ntmps57
    go_wp2_with fail
    refine (C1.out _).mono ?_
    rintro e u1 ⟨rfl, k1⟩
    have K1 := hid (((Kept.refl w).alloc _).trans k1)
    clear k1
    go_wp2_with fail
    refine (C2.out _).mono ?_
    rintro e u2 ⟨rfl, k2⟩
    have K2 := hid (K1.out.trans k2)
    clear k2
    go_wp2
    go_ret
    exact ⟨by rw [E2.out]; rfl, by repeat (first | with_reducible exact K2.out | with_reducible refine Kept.alloc ?_ _ | with_reducible refine Kept.drew ?_ | with_reducible refine Kept.drewN ?_)⟩
  have d1 : decide (s < 1) = false := decide_eq_false c1
  cases win
  · have E2 := hid (show Q = -1 by rw [E.out, if_pos (.inr (.inl rfl))])
    clear E W
    go_enter Tryz.func57, Tryz.ntmps57
    go_wp2_with fail
    refine (C1.out _).mono ?_
    rintro e u1 ⟨rfl, k1⟩
    have K1 := hid (((Kept.refl w).alloc _).trans k1)
    clear k1
    go_wp2_with fail
    refine (C2.out _).mono ?_
    rintro e u2 ⟨rfl, k2⟩
    have K2 := hid (K1.out.trans k2)
    clear k2
    go_wp2_with ((go_at_call 79; refine (C3.out _).mono ?_; rintro e v2 ⟨rfl, rfl⟩))
    go_ret
    exact ⟨by rw [E2.out]; rfl, by repeat (first | with_reducible exact K2.out | with_reducible refine Kept.alloc ?_ _ | with_reducible refine Kept.drew ?_ | with_reducible refine Kept.drewN ?_)⟩
  obtain ⟨a2, a3⟩ := W rfl
  clear W
  have x1 : IntKind.i64.wrap (8192 * b) = 8192 * b := by rw [IntKind.wrap_i64]; omega
  have x2 : IntKind.i64.wrap (8192 * b + a) = 8192 * b + a := by rw [IntKind.wrap_i64]; omega
  have x3 : IntKind.i64.wrap (8192 * b + a - 40960) = 8192 * b + a - 40960 := by rw [IntKind.wrap_i64]; omega
  obtain ⟨t1, t2, t3⟩ := mod_bd (8192 * b + a - 40960) s (by omega) (by omega) (by omega)
  have sz : ¬ (s = 0) := by omega
  have E2 := hid (show Q = if no = true then -1 else (8192 * b + a - 40960) % s by rw [E.out]; cases no <;> simp [c1])
  clear E
  generalize (8192 * b + a - 40960) % s = R at *
  have x4 : IntKind.i64.wrap R = R := by rw [IntKind.wrap_i64]; omega
  cases no
  all_goals
    go_enter Tryz.func57, Tryz.ntmps57
    go_wp2_with fail
    refine (C1.out _).mono ?_
    rintro e u1 ⟨rfl, k1⟩
    have K1 := hid (((Kept.refl w).alloc _).trans k1)
    clear k1
    go_wp2_with fail
    refine (C2.out _).mono ?_
    rintro e u2 ⟨rfl, k2⟩
    have K2 := hid (K1.out.trans k2)
    clear k2
    go_wp2_with ((go_at_call 79; refine (C3.out _).mono ?_; rintro e v2 ⟨rfl, rfl⟩))
    go_ret
    exact ⟨by rw [E2.out]; rfl, by repeat (first | with_reducible exact K2.out | with_reducible refine Kept.alloc ?_ _ | with_reducible refine Kept.drew ?_ | with_reducible refine Kept.drewN ?_)⟩
theorem ramBank3_is (m : Mp) (w : World) (M : MpIn m) (h : m.kind = 3) : Calls Tryz.prog 109 #[mV m] w fun e w' => e = .returned (.tuple #[.int .i64 (ramB m), .bool (!ramNo m)]) ∧ Kept w w' := by
  have E1 : ramB m = m.ram := by unfold ramB; rw [if_neg (by omega), if_pos h]
  have E2 : (!ramNo m) = (m.op && decide (m.ram ≤ 7)) := by unfold ramNo; rw [if_neg (by omega), if_pos h]; by_cases q : m.ram ≤ 7 <;> cases m.op <;> simp [q] <;> omega
  rw [E1, E2]
  exact ramBank3_any m w M
set_option maxRecDepth 100000 in
set_option maxHeartbeats 4000000 in
theorem mram3 (m : Mp) (a s : Int) (w : World) (a0 : 0 ≤ a) (a1 : a ≤ 65535) (s0 : -9223372036854775808 ≤ s) (s1 : s ≤ 9223372036854775807) (M : MpIn m) (h : m.kind = 3) : Calls Tryz.prog 57 #[mpV m, .int .u16 a, .int .i64 s] w fun e w' => e = .returned (.int .i64 (ramM m a s)) ∧ Kept w w' := by
  have C1 := hid (fun u => chipOf3_any m u h)
  have C2 := hid (fun u => ramBank3_is m u M h)
  have C3 := hid (fun u => inWindow_any a u)
  have E := hid (show ramM m a s = if s < 1 ∨ inWin a = false ∨ ramNo m = true then -1 else (8192 * ramB m + a - 40960) % s from rfl)
  obtain ⟨b0, b1⟩ := ramB_bd m M
  have W : inWin a = true → 40960 ≤ a ∧ a ≤ 49151 := by intro hw; unfold inWin at hw; simpa using hw
  generalize ramM m a s = Q at *
  generalize ramB m = b at *
  generalize ramNo m = no at *
  generalize inWin a = win at *
  have wa : IntKind.i64.wrap a = a := by rw [IntKind.wrap_i64]; omega
  clear M h
  by_cases c1 : s < 1
  · have d1 : decide (s < 1) = true := decide_eq_true c1
    have E2 := hid (show Q = -1 by rw [E.out, if_pos (.inl c1)])
    clear E W
    go_enter Tryz.func57, Tryz.ntmps57
    go_wp2_with fail
    refine (C1.out _).mono ?_
    rintro e u1 ⟨rfl, k1⟩
    have K1 := hid (((Kept.refl w).alloc _).trans k1)
    clear k1
    go_wp2_with fail
    refine (C2.out _).mono ?_
    rintro e u2 ⟨rfl, k2⟩
    have K2 := hid (K1.out.trans k2)
    clear k2
    go_wp2
    go_ret
    exact ⟨by rw [E2.out]; rfl, by repeat (first | with_reducible exact K2.out | with_reducible refine Kept.alloc ?_ _ | with_reducible refine Kept.drew ?_ | with_reducible refine Kept.drewN ?_)⟩
  have d1 : decide (s < 1) = false := decide_eq_false c1
  cases win
  · have E2 := hid (show Q = -1 by rw [E.out, if_pos (.inr (.inl rfl))])
    clear E W
    go_enter Tryz.func57, Tryz.ntmps57
    go_wp2_with fail
    refine (C1.out _).mono ?_
    rintro e u1 ⟨rfl, k1⟩
    have K1 := hid (((Kept.refl w).alloc _).trans k1)
    clear k1
    go_wp2_with fail
    refine (C2.out _).mono ?_
    rintro e u2 ⟨rfl, k2⟩
    have K2 := hid (K1.out.trans k2)
    clear k2
    go_wp2_with ((go_at_call 79; refine (C3.out _).mono ?_; rintro e v2 ⟨rfl, rfl⟩))
    go_ret
    exact ⟨by rw [E2.out]; rfl, by repeat (first | with_reducible exact K2.out | with_reducible refine Kept.alloc ?_ _ | with_reducible refine Kept.drew ?_ | with_reducible refine Kept.drewN ?_)⟩
  obtain ⟨a2, a3⟩ := W rfl
  clear W
  have x1 : IntKind.i64.wrap (8192 * b) = 8192 * b := by rw [IntKind.wrap_i64]; omega
  have x2 : IntKind.i64.wrap (8192 * b + a) = 8192 * b + a := by rw [IntKind.wrap_i64]; omega
  have x3 : IntKind.i64.wrap (8192 * b + a - 40960) = 8192 * b + a - 40960 := by rw [IntKind.wrap_i64]; omega
  obtain ⟨t1, t2, t3⟩ := mod_bd (8192 * b + a - 40960) s (by omega) (by omega) (by omega)
  have sz : ¬ (s = 0) := by omega
  have E2 := hid (show Q = if no = true then -1 else (8192 * b + a - 40960) % s by rw [E.out]; cases no <;> simp [c1])
  clear E
  generalize (8192 * b + a - 40960) % s = R at *
  have x4 : IntKind.i64.wrap R = R := by rw [IntKind.wrap_i64]; omega
  cases no
  all_goals
    go_enter Tryz.func57, Tryz.ntmps57
    go_wp2_with fail
    refine (C1.out _).mono ?_
    rintro e u1 ⟨rfl, k1⟩
    have K1 := hid (((Kept.refl w).alloc _).trans k1)
    clear k1
    go_wp2_with fail
    refine (C2.out _).mono ?_
    rintro e u2 ⟨rfl, k2⟩
    have K2 := hid (K1.out.trans k2)
    clear k2
    go_wp2_with ((go_at_call 79; refine (C3.out _).mono ?_; rintro e v2 ⟨rfl, rfl⟩))
    go_ret
    exact ⟨by rw [E2.out]; rfl, by repeat (first | with_reducible exact K2.out | with_reducible refine Kept.alloc ?_ _ | with_reducible refine Kept.drew ?_ | with_reducible refine Kept.drewN ?_)⟩
theorem ramBank5_is (m : Mp) (w : World) (M : MpIn m) (h : m.kind = 5) : Calls Tryz.prog 114 #[mV m] w fun e w' => e = .returned (.tuple #[.int .i64 (ramB m), .bool (!ramNo m)]) ∧ Kept w w' := by
  have E1 : ramB m = m.ram := by unfold ramB; rw [if_neg (by omega), if_neg (by omega), if_pos h]
  have E2 : (!ramNo m) = m.op := by unfold ramNo; rw [if_neg (by omega), if_neg (by omega), if_pos h]; simp
  rw [E1, E2]
  exact ramBank5_any m w M
set_option maxRecDepth 100000 in
set_option maxHeartbeats 4000000 in
theorem mram5 (m : Mp) (a s : Int) (w : World) (a0 : 0 ≤ a) (a1 : a ≤ 65535) (s0 : -9223372036854775808 ≤ s) (s1 : s ≤ 9223372036854775807) (M : MpIn m) (h : m.kind = 5) : Calls Tryz.prog 57 #[mpV m, .int .u16 a, .int .i64 s] w fun e w' => e = .returned (.int .i64 (ramM m a s)) ∧ Kept w w' := by
  have C1 := hid (fun u => chipOf5_any m u h)
  have C2 := hid (fun u => ramBank5_is m u M h)
  have C3 := hid (fun u => inWindow_any a u)
  have E := hid (show ramM m a s = if s < 1 ∨ inWin a = false ∨ ramNo m = true then -1 else (8192 * ramB m + a - 40960) % s from rfl)
  obtain ⟨b0, b1⟩ := ramB_bd m M
  have W : inWin a = true → 40960 ≤ a ∧ a ≤ 49151 := by intro hw; unfold inWin at hw; simpa using hw
  generalize ramM m a s = Q at *
  generalize ramB m = b at *
  generalize ramNo m = no at *
  generalize inWin a = win at *
  have wa : IntKind.i64.wrap a = a := by rw [IntKind.wrap_i64]; omega
  clear M h
  by_cases c1 : s < 1
  · have d1 : decide (s < 1) = true := decide_eq_true c1
    have E2 := hid (show Q = -1 by rw [E.out, if_pos (.inl c1)])
    clear E W
    go_enter Tryz.func57, Tryz.ntmps57
    go_wp2_with fail
    refine (C1.out _).mono ?_
    rintro e u1 ⟨rfl, k1⟩
    have K1 := hid (((Kept.refl w).alloc _).trans k1)
    clear k1
    go_wp2_with fail
    refine (C2.out _).mono ?_
    rintro e u2 ⟨rfl, k2⟩
    have K2 := hid (K1.out.trans k2)
    clear k2
    go_wp2
    go_ret
    exact ⟨by rw [E2.out]; rfl, by repeat (first | with_reducible exact K2.out | with_reducible refine Kept.alloc ?_ _ | with_reducible refine Kept.drew ?_ | with_reducible refine Kept.drewN ?_)⟩
  have d1 : decide (s < 1) = false := decide_eq_false c1
  cases win
  · have E2 := hid (show Q = -1 by rw [E.out, if_pos (.inr (.inl rfl))])
    clear E W
    go_enter Tryz.func57, Tryz.ntmps57
    go_wp2_with fail
    refine (C1.out _).mono ?_
    rintro e u1 ⟨rfl, k1⟩
    have K1 := hid (((Kept.refl w).alloc _).trans k1)
    clear k1
    go_wp2_with fail
    refine (C2.out _).mono ?_
    rintro e u2 ⟨rfl, k2⟩
    have K2 := hid (K1.out.trans k2)
    clear k2
    go_wp2_with ((go_at_call 79; refine (C3.out _).mono ?_; rintro e v2 ⟨rfl, rfl⟩))
    go_ret
    exact ⟨by rw [E2.out]; rfl, by repeat (first | with_reducible exact K2.out | with_reducible refine Kept.alloc ?_ _ | with_reducible refine Kept.drew ?_ | with_reducible refine Kept.drewN ?_)⟩
  obtain ⟨a2, a3⟩ := W rfl
  clear W
  have x1 : IntKind.i64.wrap (8192 * b) = 8192 * b := by rw [IntKind.wrap_i64]; omega
  have x2 : IntKind.i64.wrap (8192 * b + a) = 8192 * b + a := by rw [IntKind.wrap_i64]; omega
  have x3 : IntKind.i64.wrap (8192 * b + a - 40960) = 8192 * b + a - 40960 := by rw [IntKind.wrap_i64]; omega
  obtain ⟨t1, t2, t3⟩ := mod_bd (8192 * b + a - 40960) s (by omega) (by omega) (by omega)
  have sz : ¬ (s = 0) := by omega
  have E2 := hid (show Q = if no = true then -1 else (8192 * b + a - 40960) % s by rw [E.out]; cases no <;> simp [c1])
  clear E
  generalize (8192 * b + a - 40960) % s = R at *
  have x4 : IntKind.i64.wrap R = R := by rw [IntKind.wrap_i64]; omega
  cases no
  all_goals
    go_enter Tryz.func57, Tryz.ntmps57
    go_wp2_with fail
    refine (C1.out _).mono ?_
    rintro e u1 ⟨rfl, k1⟩
    have K1 := hid (((Kept.refl w).alloc _).trans k1)
    clear k1
    go_wp2_with fail
    refine (C2.out _).mono ?_
    rintro e u2 ⟨rfl, k2⟩
    have K2 := hid (K1.out.trans k2)
    clear k2
    go_wp2_with ((go_at_call 79; refine (C3.out _).mono ?_; rintro e v2 ⟨rfl, rfl⟩))
    go_ret
    exact ⟨by rw [E2.out]; rfl, by repeat (first | with_reducible exact K2.out | with_reducible refine Kept.alloc ?_ _ | with_reducible refine Kept.drew ?_ | with_reducible refine Kept.drewN ?_)⟩
theorem ramBank0_is (m : Mp) (w : World) (M : MpIn m) (n1 : m.kind ≠ 1) (n3 : m.kind ≠ 3) (n5 : m.kind ≠ 5) : Calls Tryz.prog 119 #[mV m] w fun e w' => e = .returned (.tuple #[.int .i64 (ramB m), .bool (!ramNo m)]) ∧ Kept w w' := by
  have E1 : ramB m = 0 := by unfold ramB; rw [if_neg n1, if_neg n3, if_neg n5]
  have E2 : (!ramNo m) = true := by unfold ramNo; rw [if_neg n1, if_neg n3, if_neg n5]; rfl
  rw [E1, E2]
  exact ramBank0_any m w
set_option maxRecDepth 100000 in
set_option maxHeartbeats 4000000 in
theorem mram0 (m : Mp) (a s : Int) (w : World) (a0 : 0 ≤ a) (a1 : a ≤ 65535) (s0 : -9223372036854775808 ≤ s) (s1 : s ≤ 9223372036854775807) (M : MpIn m) (n1 : m.kind ≠ 1) (n3 : m.kind ≠ 3) (n5 : m.kind ≠ 5) : Calls Tryz.prog 57 #[mpV m, .int .u16 a, .int .i64 s] w fun e w' => e = .returned (.int .i64 (ramM m a s)) ∧ Kept w w' := by
  have C1 := hid (fun u => chipOf0_any m u n1 n3 n5)
  have C2 := hid (fun u => ramBank0_is m u M n1 n3 n5)
  have C3 := hid (fun u => inWindow_any a u)
  have E := hid (show ramM m a s = if s < 1 ∨ inWin a = false ∨ ramNo m = true then -1 else (8192 * ramB m + a - 40960) % s from rfl)
  obtain ⟨b0, b1⟩ := ramB_bd m M
  have W : inWin a = true → 40960 ≤ a ∧ a ≤ 49151 := by intro hw; unfold inWin at hw; simpa using hw
  generalize ramM m a s = Q at *
  generalize ramB m = b at *
  generalize ramNo m = no at *
  generalize inWin a = win at *
  have wa : IntKind.i64.wrap a = a := by rw [IntKind.wrap_i64]; omega
  clear M n1 n3 n5
  by_cases c1 : s < 1
  · have d1 : decide (s < 1) = true := decide_eq_true c1
    have E2 := hid (show Q = -1 by rw [E.out, if_pos (.inl c1)])
    clear E W
    go_enter Tryz.func57, Tryz.ntmps57
    go_wp2_with fail
    refine (C1.out _).mono ?_
    rintro e u1 ⟨rfl, k1⟩
    have K1 := hid (((Kept.refl w).alloc _).trans k1)
    clear k1
    go_wp2_with fail
    refine (C2.out _).mono ?_
    rintro e u2 ⟨rfl, k2⟩
    have K2 := hid (K1.out.trans k2)
    clear k2
    go_wp2
    go_ret
    exact ⟨by rw [E2.out]; rfl, by repeat (first | with_reducible exact K2.out | with_reducible refine Kept.alloc ?_ _ | with_reducible refine Kept.drew ?_ | with_reducible refine Kept.drewN ?_)⟩
  have d1 : decide (s < 1) = false := decide_eq_false c1
  cases win
  · have E2 := hid (show Q = -1 by rw [E.out, if_pos (.inr (.inl rfl))])
    clear E W
    go_enter Tryz.func57, Tryz.ntmps57
    go_wp2_with fail
    refine (C1.out _).mono ?_
    rintro e u1 ⟨rfl, k1⟩
    have K1 := hid (((Kept.refl w).alloc _).trans k1)
    clear k1
    go_wp2_with fail
    refine (C2.out _).mono ?_
    rintro e u2 ⟨rfl, k2⟩
    have K2 := hid (K1.out.trans k2)
    clear k2
    go_wp2_with ((go_at_call 79; refine (C3.out _).mono ?_; rintro e v2 ⟨rfl, rfl⟩))
    go_ret
    exact ⟨by rw [E2.out]; rfl, by repeat (first | with_reducible exact K2.out | with_reducible refine Kept.alloc ?_ _ | with_reducible refine Kept.drew ?_ | with_reducible refine Kept.drewN ?_)⟩
  obtain ⟨a2, a3⟩ := W rfl
  clear W
  have x1 : IntKind.i64.wrap (8192 * b) = 8192 * b := by rw [IntKind.wrap_i64]; omega
  have x2 : IntKind.i64.wrap (8192 * b + a) = 8192 * b + a := by rw [IntKind.wrap_i64]; omega
  have x3 : IntKind.i64.wrap (8192 * b + a - 40960) = 8192 * b + a - 40960 := by rw [IntKind.wrap_i64]; omega
  obtain ⟨t1, t2, t3⟩ := mod_bd (8192 * b + a - 40960) s (by omega) (by omega) (by omega)
  have sz : ¬ (s = 0) := by omega
  have E2 := hid (show Q = if no = true then -1 else (8192 * b + a - 40960) % s by rw [E.out]; cases no <;> simp [c1])
  clear E
  generalize (8192 * b + a - 40960) % s = R at *
  have x4 : IntKind.i64.wrap R = R := by rw [IntKind.wrap_i64]; omega
  cases no
  all_goals
    go_enter Tryz.func57, Tryz.ntmps57
    go_wp2_with fail
    refine (C1.out _).mono ?_
    rintro e u1 ⟨rfl, k1⟩
    have K1 := hid (((Kept.refl w).alloc _).trans k1)
    clear k1
    go_wp2_with fail
    refine (C2.out _).mono ?_
    rintro e u2 ⟨rfl, k2⟩
    have K2 := hid (K1.out.trans k2)
    clear k2
    go_wp2_with ((go_at_call 79; refine (C3.out _).mono ?_; rintro e v2 ⟨rfl, rfl⟩))
    go_ret
    exact ⟨by rw [E2.out]; rfl, by repeat (first | with_reducible exact K2.out | with_reducible refine Kept.alloc ?_ _ | with_reducible refine Kept.drew ?_ | with_reducible refine Kept.drewN ?_)⟩
theorem mram_any (m : Mp) (a s : Int) (w : World) (a0 : 0 ≤ a) (a1 : a ≤ 65535) (s0 : -9223372036854775808 ≤ s) (s1 : s ≤ 9223372036854775807) (M : MpIn m) : Calls Tryz.prog 57 #[mpV m, .int .u16 a, .int .i64 s] w fun e w' => e = .returned (.int .i64 (ramM m a s)) ∧ Kept w w' := by
  rcases kinds_of m.kind with h | h | h | ⟨n1, n3, n5⟩
  · exact mram1 m a s w a0 a1 s0 s1 M h
  · exact mram3 m a s w a0 a1 s0 s1 M h
  · exact mram5 m a s w a0 a1 s0 s1 M h
  · exact mram0 m a s w a0 a1 s0 s1 M n1 n3 n5
set_option maxRecDepth 100000 in
set_option maxHeartbeats 4000000 in
theorem mreg_any (m : Mp) (a : Int) (w : World) (a0 : 0 ≤ a) (a1 : a ≤ 65535) (M : MpIn m) : Calls Tryz.prog 54 #[mpV m, .int .u16 a] w fun e w' => e = .returned (.int .i64 (regM m a)) ∧ Kept w w' := by
  have C3 := hid (fun u => inWindow_any a u)
  cases hw : inWin a
  · have E : regM m a = 0 := by unfold regM; rw [if_neg (by simp [hw])]
    rw [E]
    rw [hw] at C3
    clear E hw
    go_enter Tryz.func54, Tryz.ntmps54
    go_wp2_with ((go_at_call 79; refine (C3.out _).mono ?_; rintro e v2 ⟨rfl, rfl⟩))
    go_ret
    exact ⟨rfl, by repeat (first | with_reducible exact Kept.refl _ | with_reducible refine Kept.alloc ?_ _ | with_reducible refine Kept.drew ?_ | with_reducible refine Kept.drewN ?_)⟩
  rw [hw] at C3
  rcases kinds_of m.kind with h | h | h | ⟨n1, n3, n5⟩
  · have E : regM m a = 0 := by unfold regM; rw [if_neg (by omega)]
    rw [E]
    clear E hw
    have C1 := hid (fun u => chipOf1_any m u h)
    have C2 := hid (fun u => clockReg1_any m u)
    clear h
    go_enter Tryz.func54, Tryz.ntmps54
    go_wp2_with ((go_at_call 79; refine (C3.out _).mono ?_; rintro e v2 ⟨rfl, rfl⟩))
    refine (C1.out _).mono ?_
    rintro e u1 ⟨rfl, k1⟩
    have K1 := hid (((Kept.refl w).alloc _).trans k1)
    clear k1
    go_wp2_with fail
    refine (C2.out _).mono ?_
    rintro e u2 ⟨rfl, k2⟩
    have K2 := hid (K1.out.trans k2)
    clear k2
    go_wp2
    go_ret
    exact ⟨rfl, K2.out⟩
  · have E : regM m a = if m.op = true ∧ 8 ≤ m.ram ∧ m.ram ≤ 12 then m.ram else 0 := by unfold regM; simp [hw, h]
    rw [E]
    clear E hw
    have C1 := hid (fun u => chipOf3_any m u h)
    have C2 := hid (fun u => clockReg3_any m u M)
    clear h
    generalize (if m.op = true ∧ 8 ≤ m.ram ∧ m.ram ≤ 12 then m.ram else 0 : Int) = R at *
    go_enter Tryz.func54, Tryz.ntmps54
    go_wp2_with ((go_at_call 79; refine (C3.out _).mono ?_; rintro e v2 ⟨rfl, rfl⟩))
    refine (C1.out _).mono ?_
    rintro e u1 ⟨rfl, k1⟩
    have K1 := hid (((Kept.refl w).alloc _).trans k1)
    clear k1
    go_wp2_with fail
    refine (C2.out _).mono ?_
    rintro e u2 ⟨rfl, k2⟩
    have K2 := hid (K1.out.trans k2)
    clear k2
    go_wp2
    go_ret
    exact ⟨rfl, K2.out⟩
  · have E : regM m a = 0 := by unfold regM; rw [if_neg (by omega)]
    rw [E]
    clear E hw
    have C1 := hid (fun u => chipOf5_any m u h)
    have C2 := hid (fun u => clockReg5_any m u)
    clear h
    go_enter Tryz.func54, Tryz.ntmps54
    go_wp2_with ((go_at_call 79; refine (C3.out _).mono ?_; rintro e v2 ⟨rfl, rfl⟩))
    refine (C1.out _).mono ?_
    rintro e u1 ⟨rfl, k1⟩
    have K1 := hid (((Kept.refl w).alloc _).trans k1)
    clear k1
    go_wp2_with fail
    refine (C2.out _).mono ?_
    rintro e u2 ⟨rfl, k2⟩
    have K2 := hid (K1.out.trans k2)
    clear k2
    go_wp2
    go_ret
    exact ⟨rfl, K2.out⟩
  · have E : regM m a = 0 := by unfold regM; rw [if_neg (by omega)]
    rw [E]
    clear E hw
    have C1 := hid (fun u => chipOf0_any m u n1 n3 n5)
    have C2 := hid (fun u => clockReg0_any m u)
    clear n1 n3 n5
    go_enter Tryz.func54, Tryz.ntmps54
    go_wp2_with ((go_at_call 79; refine (C3.out _).mono ?_; rintro e v2 ⟨rfl, rfl⟩))
    refine (C1.out _).mono ?_
    rintro e u1 ⟨rfl, k1⟩
    have K1 := hid (((Kept.refl w).alloc _).trans k1)
    clear k1
    go_wp2_with fail
    refine (C2.out _).mono ?_
    rintro e u2 ⟨rfl, k2⟩
    have K2 := hid (K1.out.trans k2)
    clear k2
    go_wp2
    go_ret
    exact ⟨rfl, K2.out⟩
end Go.Proofs.YtfmddnekooojkaaGreatDoor
