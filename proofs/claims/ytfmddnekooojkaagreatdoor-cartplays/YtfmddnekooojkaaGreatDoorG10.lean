/- What the document's answers of layer 8 come to. What the document's answers of layer 8 come to: Rom, Ram, Reg. What the document's answers of layer 9 come to: Write, Run. -/
import Derived.Test.YtfmddnekooojkaaGreatDoorG08
import Derived.Test.YtfmddnekooojkaaGreatDoorG09
import Derived.Test.YtfmddnekooojkaaGreatDoorChecked
import Derived.Deep.QuietTactic
import Derived.BigQuiet
namespace Go.Proofs.YtfmddnekooojkaaGreatDoor
open Go.RowKit
set_option linter.unusedVariables false
set_option linter.unusedSimpArgs false

abbrev mpV (m : Mp) : Value := .agg #[.int .i64 m.kind, .bool m.op, .int .u8 m.low, .int .u8 m.high, .int .u8 m.ram, .bool m.mode]
theorem zone_of (a : Int) : zone a = 0 ∧ a < 8192 ∨ zone a = 1 ∧ 8192 ≤ a ∧ a < 12288 ∨ zone a = 2 ∧ 12288 ≤ a ∧ a < 16384 ∨ zone a = 3 ∧ 16384 ≤ a ∧ a < 24576 ∨ zone a = 4 ∧ 24576 ≤ a ∧ a < 32768 ∨ zone a = 5 ∧ 32768 ≤ a := by
  unfold zone
  repeat' split
  all_goals omega
theorem rwr_any (m : Mp) (a v : Int) (w : World) (a0 : 0 ≤ a) (a1 : a ≤ 65535) (v0 : 0 ≤ v) (v1 : v ≤ 255) :
    Calls Tryz.prog 35 #[.agg #[.int .i64 m.kind, .bool m.op, .int .u8 m.low, .int .u8 m.high, .int .u8 m.ram, .bool m.mode], .int .u16 a, .int .u8 v] w fun e w' => e = .returned (mpV (writeM m a v)) ∧ Kept w w' := by
  have Z : zone a = 0 ∧ a < 8192 ∨ zone a = 1 ∧ 8192 ≤ a ∧ a < 12288 ∨ zone a = 2 ∧ 12288 ≤ a ∧ a < 16384 ∨ zone a = 3 ∧ 16384 ≤ a ∧ a < 24576 ∨ zone a = 4 ∧ 24576 ≤ a ∧ a < 32768 ∨ zone a = 5 ∧ 32768 ≤ a := zone_of a
  obtain ⟨kind, op, low, high, ram, mode⟩ := m
  unfold writeM writeZ
  rcases kinds_of kind with rfl | rfl | rfl | ⟨n1, n3, n5⟩
  · rcases Z with ⟨z, ha⟩ | ⟨z, ha⟩ | ⟨z, ha⟩ | ⟨z, ha⟩ | ⟨z, ha⟩ | ⟨z, ha⟩
    · rw [z]; rw [if_pos rfl]; exact rwr10 ⟨1, op, low, high, ram, mode⟩ a v w a0 a1 v0 v1 ha
    · rw [z]; rw [if_pos rfl]; exact rwr11 ⟨1, op, low, high, ram, mode⟩ a v w a0 a1 v0 v1 ha
    · rw [z]; rw [if_pos rfl]; exact rwr12 ⟨1, op, low, high, ram, mode⟩ a v w a0 a1 v0 v1 ha
    · rw [z]; rw [if_pos rfl]; exact rwr13 ⟨1, op, low, high, ram, mode⟩ a v w a0 a1 v0 v1 ha
    · rw [z]; rw [if_pos rfl]; exact rwr14 ⟨1, op, low, high, ram, mode⟩ a v w a0 a1 v0 v1 ha
    · rw [z]; rw [if_pos rfl]; exact rwr15 ⟨1, op, low, high, ram, mode⟩ a v w a0 a1 v0 v1 ha
  · rcases Z with ⟨z, ha⟩ | ⟨z, ha⟩ | ⟨z, ha⟩ | ⟨z, ha⟩ | ⟨z, ha⟩ | ⟨z, ha⟩
    · rw [z]; rw [if_neg (show (3 : Int) ≠ 1 by decide), if_pos rfl]; exact rwr30 ⟨3, op, low, high, ram, mode⟩ a v w a0 a1 v0 v1 ha
    · rw [z]; rw [if_neg (show (3 : Int) ≠ 1 by decide), if_pos rfl]; exact rwr31 ⟨3, op, low, high, ram, mode⟩ a v w a0 a1 v0 v1 ha
    · rw [z]; rw [if_neg (show (3 : Int) ≠ 1 by decide), if_pos rfl]; exact rwr32 ⟨3, op, low, high, ram, mode⟩ a v w a0 a1 v0 v1 ha
    · rw [z]; rw [if_neg (show (3 : Int) ≠ 1 by decide), if_pos rfl]; exact rwr33 ⟨3, op, low, high, ram, mode⟩ a v w a0 a1 v0 v1 ha
    · rw [z]; rw [if_neg (show (3 : Int) ≠ 1 by decide), if_pos rfl]; exact rwr34 ⟨3, op, low, high, ram, mode⟩ a v w a0 a1 v0 v1 ha
    · rw [z]; rw [if_neg (show (3 : Int) ≠ 1 by decide), if_pos rfl]; exact rwr35 ⟨3, op, low, high, ram, mode⟩ a v w a0 a1 v0 v1 ha
  · rcases Z with ⟨z, ha⟩ | ⟨z, ha⟩ | ⟨z, ha⟩ | ⟨z, ha⟩ | ⟨z, ha⟩ | ⟨z, ha⟩
    · rw [z]; rw [if_neg (show (5 : Int) ≠ 1 by decide), if_neg (show (5 : Int) ≠ 3 by decide), if_pos rfl]; exact rwr50 ⟨5, op, low, high, ram, mode⟩ a v w a0 a1 v0 v1 ha
    · rw [z]; rw [if_neg (show (5 : Int) ≠ 1 by decide), if_neg (show (5 : Int) ≠ 3 by decide), if_pos rfl]; exact rwr51 ⟨5, op, low, high, ram, mode⟩ a v w a0 a1 v0 v1 ha
    · rw [z]; rw [if_neg (show (5 : Int) ≠ 1 by decide), if_neg (show (5 : Int) ≠ 3 by decide), if_pos rfl]; exact rwr52 ⟨5, op, low, high, ram, mode⟩ a v w a0 a1 v0 v1 ha
    · rw [z]; rw [if_neg (show (5 : Int) ≠ 1 by decide), if_neg (show (5 : Int) ≠ 3 by decide), if_pos rfl]; exact rwr53 ⟨5, op, low, high, ram, mode⟩ a v w a0 a1 v0 v1 ha
    · rw [z]; rw [if_neg (show (5 : Int) ≠ 1 by decide), if_neg (show (5 : Int) ≠ 3 by decide), if_pos rfl]; exact rwr54 ⟨5, op, low, high, ram, mode⟩ a v w a0 a1 v0 v1 ha
    · rw [z]; rw [if_neg (show (5 : Int) ≠ 1 by decide), if_neg (show (5 : Int) ≠ 3 by decide), if_pos rfl]; exact rwr55 ⟨5, op, low, high, ram, mode⟩ a v w a0 a1 v0 v1 ha
  · rcases Z with ⟨z, ha⟩ | ⟨z, ha⟩ | ⟨z, ha⟩ | ⟨z, ha⟩ | ⟨z, ha⟩ | ⟨z, ha⟩
    · rw [z]; rw [if_neg n1, if_neg n3, if_neg n5]; exact rwr00 ⟨kind, op, low, high, ram, mode⟩ a v w a0 a1 v0 v1 ha n1 n3 n5
    · rw [z]; rw [if_neg n1, if_neg n3, if_neg n5]; exact rwr01 ⟨kind, op, low, high, ram, mode⟩ a v w a0 a1 v0 v1 ha n1 n3 n5
    · rw [z]; rw [if_neg n1, if_neg n3, if_neg n5]; exact rwr02 ⟨kind, op, low, high, ram, mode⟩ a v w a0 a1 v0 v1 ha n1 n3 n5
    · rw [z]; rw [if_neg n1, if_neg n3, if_neg n5]; exact rwr03 ⟨kind, op, low, high, ram, mode⟩ a v w a0 a1 v0 v1 ha n1 n3 n5
    · rw [z]; rw [if_neg n1, if_neg n3, if_neg n5]; exact rwr04 ⟨kind, op, low, high, ram, mode⟩ a v w a0 a1 v0 v1 ha n1 n3 n5
    · rw [z]; rw [if_neg n1, if_neg n3, if_neg n5]; exact rwr05 ⟨kind, op, low, high, ram, mode⟩ a v w a0 a1 v0 v1 ha n1 n3 n5
set_option maxRecDepth 100000 in
theorem rnew_any (k : Int) (w : World) : Calls Tryz.prog 23 #[.int .i64 k] w fun e w' => e = .returned (.tuple #[mpV (newR k), .int .i64 (newE k)]) ∧ Kept w w' := by
  by_cases h : k = 0 ∨ k = 1 ∨ k = 3 ∨ k = 5
  · rcases h with rfl | rfl | rfl | rfl
    all_goals
      go_enter Tryz.func23, Tryz.ntmps23
      go_wp2
      exact bodyPost_ret (v := .tuple #[mpV (newM _), .int .i64 0]) (by simp [results, Tryz.results23, go_sem, newM]; try rfl) rfl ⟨rfl, by repeat (first | with_reducible exact Kept.refl _ | with_reducible refine Kept.alloc ?_ _ | with_reducible refine Kept.setCell ?_ (Nat.le_refl _) _ _)⟩
  · have b0 : (k != 0) = true := by simp; omega
    have b1 : (k != 1) = true := by simp; omega
    have b3 : (k != 3) = true := by simp; omega
    have b5 : (k != 5) = true := by simp; omega
    have E : newOk k = false := by unfold newOk; simp; omega
    have E1 := hid (show newR k = mp0 by unfold newR; rw [E]; rfl)
    have E2 := hid (show newE k = 4 by unfold newE; rw [E]; rfl)
    clear E h
    go_enter Tryz.func23, Tryz.ntmps23
    go_wp2
    exact bodyPost_ret (v := .tuple #[mpV mp0, .int .i64 4]) (by simp [results, Tryz.results23, go_sem, mp0]) rfl ⟨by rw [E1.out, E2.out], by repeat (first | with_reducible exact Kept.refl _ | with_reducible refine Kept.alloc ?_ _ | with_reducible refine Kept.setCell ?_ (Nat.le_refl _) _ _)⟩
def halfOk (h : Nat) (a : Int) : Prop := h = 0 ∧ a < 16384 ∨ h = 1 ∧ 16384 ≤ a ∧ a < 32768 ∨ h = 2 ∧ 32768 ≤ a
set_option maxRecDepth 100000 in
set_option maxHeartbeats 4000000 in
theorem rbank_any (m : Mp) (a : Int) (w : World) (a0 : 0 ≤ a) (a1 : a ≤ 65535) (M : MpIn m) :
    Calls Tryz.prog 58 #[.agg #[.int .i64 m.kind, .bool m.op, .int .u8 m.low, .int .u8 m.high, .int .u8 m.ram, .bool m.mode], .int .u16 a] w fun e w' => e = .returned (.int .i64 (bankM m a)) ∧ Kept w w' := by
  obtain ⟨kind, op, low, high, ram, mode⟩ := m
  have l0 : 0 ≤ low := M.l0
  have l1 : low ≤ 255 := M.l1
  have h0 : 0 ≤ high := M.h0
  have h1 : high ≤ 255 := M.h1
  have wl : IntKind.i64.wrap low = low := by rw [IntKind.wrap_i64]; omega
  have wh : IntKind.i64.wrap high = high := by rw [IntKind.wrap_i64]; omega
  have w1 : IntKind.i64.wrap (32 * high) = 32 * high := by rw [IntKind.wrap_i64]; omega
  have w2 : IntKind.i64.wrap (32 * high + low) = 32 * high + low := by rw [IntKind.wrap_i64]; omega
  have w3 : IntKind.i64.wrap (32 * high + 1) = 32 * high + 1 := by rw [IntKind.wrap_i64]; omega
  have w4 : IntKind.i64.wrap (256 * high) = 256 * high := by rw [IntKind.wrap_i64]; omega
  have w5 : IntKind.i64.wrap (256 * high + low) = 256 * high + low := by rw [IntKind.wrap_i64]; omega
  clear M
  by_cases c3 : 32767 < a
  · have d3 : decide (32767 < a) = true := decide_eq_true c3
    have E := hid (show bankM ⟨kind, op, low, high, ram, mode⟩ a = 0 by unfold bankM; rw [if_neg (by omega), if_neg (by omega)])
    go_enter Tryz.func58, Tryz.ntmps58
    go_wp2
    go_ret
    exact ⟨by rw [E.out]; rfl, by repeat (first | with_reducible exact Kept.refl _ | with_reducible refine Kept.alloc ?_ _)⟩
  have d3 : decide (32767 < a) = false := decide_eq_false c3
  by_cases c2 : 16383 < a
  · have d2 : decide (16383 < a) = true := decide_eq_true c2
    have E := hid (show bankM ⟨kind, op, low, high, ram, mode⟩ a = bankHi ⟨kind, op, low, high, ram, mode⟩ by unfold bankM; rw [if_neg (by omega), if_pos (by omega)])
    by_cases hl : low = 0
    · subst hl
      rcases kinds_of kind with rfl | rfl | rfl | ⟨n1, n3, n5⟩
      all_goals (try (have b1 : (kind == 1) = false := by simpa using n1)); (try (have b3 : (kind == 3) = false := by simpa using n3)); (try (have b5 : (kind == 5) = false := by simpa using n5))
      all_goals
        go_enter Tryz.func58, Tryz.ntmps58
        go_wp2
        go_ret
        refine ⟨?_, by repeat (first | with_reducible exact Kept.refl _ | with_reducible refine Kept.alloc ?_ _)⟩
        rw [E.out]
        simp [bankHi, one, *]
    · have bl : (low == 0) = false := by simpa using hl
      rcases kinds_of kind with rfl | rfl | rfl | ⟨n1, n3, n5⟩
      all_goals (try (have b1 : (kind == 1) = false := by simpa using n1)); (try (have b3 : (kind == 3) = false := by simpa using n3)); (try (have b5 : (kind == 5) = false := by simpa using n5))
      all_goals
        go_enter Tryz.func58, Tryz.ntmps58
        go_wp2
        go_ret
        refine ⟨?_, by repeat (first | with_reducible exact Kept.refl _ | with_reducible refine Kept.alloc ?_ _)⟩
        rw [E.out]
        simp [bankHi, one, *]
  · have d2 : decide (16383 < a) = false := decide_eq_false c2
    have E := hid (show bankM ⟨kind, op, low, high, ram, mode⟩ a = bankLo ⟨kind, op, low, high, ram, mode⟩ by unfold bankM; rw [if_pos (by omega)])
    by_cases hl : low = 0
    · subst hl
      rcases kinds_of kind with rfl | rfl | rfl | ⟨n1, n3, n5⟩
      all_goals (try (have b1 : (kind == 1) = false := by simpa using n1)); (try (have b3 : (kind == 3) = false := by simpa using n3)); (try (have b5 : (kind == 5) = false := by simpa using n5))
      all_goals cases mode
      all_goals
        go_enter Tryz.func58, Tryz.ntmps58
        go_wp2
        go_ret
        refine ⟨?_, by repeat (first | with_reducible exact Kept.refl _ | with_reducible refine Kept.alloc ?_ _)⟩
        rw [E.out]
        simp [bankLo, *]
    · have bl : (low == 0) = false := by simpa using hl
      rcases kinds_of kind with rfl | rfl | rfl | ⟨n1, n3, n5⟩
      all_goals (try (have b1 : (kind == 1) = false := by simpa using n1)); (try (have b3 : (kind == 3) = false := by simpa using n3)); (try (have b5 : (kind == 5) = false := by simpa using n5))
      all_goals cases mode
      all_goals
        go_enter Tryz.func58, Tryz.ntmps58
        go_wp2
        go_ret
        refine ⟨?_, by repeat (first | with_reducible exact Kept.refl _ | with_reducible refine Kept.alloc ?_ _)⟩
        rw [E.out]
        simp [bankLo, *]
end Go.Proofs.YtfmddnekooojkaaGreatDoor
namespace Go.Proofs.YtfmddnekooojkaaGreatDoor
open Go.RowKit
set_option linter.unusedVariables false
set_option linter.unusedSimpArgs false

theorem rwin_any (a : Int) (w : World) : Calls Tryz.prog 61 #[.int .u16 a] w fun e w' => e = .returned (.bool (inWin a)) ∧ w' = w := by
  unfold inWin
  go_enter Tryz.func61, Tryz.ntmps61
  by_cases h : 40960 ≤ a
  · have h2 : decide (40960 ≤ a) = true := decide_eq_true h
    rw [h2]
    go_wp2
    go_ret
    exact ⟨by simp, rfl⟩
  · have h2 : decide (40960 ≤ a) = false := decide_eq_false h
    rw [h2]
    go_wp2
    go_ret
    exact ⟨by simp, rfl⟩
theorem mod_bd (x s : Int) (h0 : 0 ≤ x) (h1 : x ≤ 2147483647) (hs : 1 ≤ s) : Int.tmod x s = x % s ∧ 0 ≤ x % s ∧ x % s ≤ 2147483647 := by
  refine ⟨Int.tmod_eq_emod_of_nonneg h0, Int.emod_nonneg x (by omega), ?_⟩
  by_cases q : x < s
  · rw [Int.emod_eq_of_lt h0 q]; exact h1
  · have := Int.emod_lt_of_pos x (show 0 < s by omega); omega
set_option maxRecDepth 100000 in
set_option maxHeartbeats 4000000 in
theorem rrom_any (m : Mp) (a s : Int) (w : World) (a0 : 0 ≤ a) (a1 : a ≤ 65535) (s0 : -9223372036854775808 ≤ s) (s1 : s ≤ 9223372036854775807) (M : MpIn m) :
    Calls Tryz.prog 29 #[.agg #[.int .i64 m.kind, .bool m.op, .int .u8 m.low, .int .u8 m.high, .int .u8 m.ram, .bool m.mode], .int .u16 a, .int .i64 s] w fun e w' => e = .returned (.int .i64 (romM m a s)) ∧ Kept w w' := by
  by_cases c : s < 1 ∨ 32767 < a
  · have E := hid (show romM m a s = -1 by unfold romM; rw [if_pos c])
    by_cases c1 : s < 1
    · have d1 : decide (s < 1) = true := decide_eq_true c1
      go_enter Tryz.func29, Tryz.ntmps29
      go_wp2
      go_ret
      exact ⟨by rw [E.out]; rfl, by repeat (first | with_reducible exact Kept.refl _ | with_reducible refine Kept.alloc ?_ _)⟩
    · have d1 : decide (s < 1) = false := decide_eq_false c1
      have c2 : 32767 < a := by omega
      have d2 : decide (32767 < a) = true := decide_eq_true c2
      go_enter Tryz.func29, Tryz.ntmps29
      go_wp2
      go_ret
      exact ⟨by rw [E.out]; rfl, by repeat (first | with_reducible exact Kept.refl _ | with_reducible refine Kept.alloc ?_ _)⟩
  · have c1 : ¬ s < 1 := by omega
    have c2 : ¬ 32767 < a := by omega
    have d1 : decide (s < 1) = false := decide_eq_false c1
    have d2 : decide (32767 < a) = false := decide_eq_false c2
    have E := hid (show romM m a s = (16384 * bankM m a + a % 16384) % s by unfold romM; rw [if_neg c])
    have C := hid (fun u => rbank_any m a u a0 a1 M)
    have B := bank_bd m a M
    have sz : ¬ (s = 0) := by omega
    generalize bankM m a = b at *
    have w1 : IntKind.i64.wrap (16384 * b) = 16384 * b := by rw [IntKind.wrap_i64]; omega
    have wa : IntKind.i64.wrap a = a := by rw [IntKind.wrap_i64]; omega
    have ta : Int.tmod a 16384 = a % 16384 := Int.tmod_eq_emod_of_nonneg a0
    have w2 : IntKind.i64.wrap (a % 16384) = a % 16384 := by rw [IntKind.wrap_i64]; omega
    have w3 : IntKind.i64.wrap (16384 * b + a % 16384) = 16384 * b + a % 16384 := by rw [IntKind.wrap_i64]; omega
    obtain ⟨t1, t2, t3⟩ := mod_bd (16384 * b + a % 16384) s (by omega) (by omega) (by omega)
    generalize (16384 * b + a % 16384) % s = R at *
    have w4 : IntKind.i64.wrap R = R := by rw [IntKind.wrap_i64]; omega
    go_enter Tryz.func29, Tryz.ntmps29
    go_wp2_with fail
    refine (C.out _).mono ?_
    rintro e u1 ⟨rfl, k1⟩
    have K1 := hid (((Kept.refl w).alloc _).trans k1)
    clear k1
    go_wp2
    go_ret
    exact ⟨by rw [E.out]; rfl, K1.out⟩
set_option maxRecDepth 100000 in
set_option maxHeartbeats 4000000 in
theorem rram_any (m : Mp) (a s : Int) (w : World) (a0 : 0 ≤ a) (a1 : a ≤ 65535) (s0 : -9223372036854775808 ≤ s) (s1 : s ≤ 9223372036854775807) (M : MpIn m) :
    Calls Tryz.prog 32 #[.agg #[.int .i64 m.kind, .bool m.op, .int .u8 m.low, .int .u8 m.high, .int .u8 m.ram, .bool m.mode], .int .u16 a, .int .i64 s] w fun e w' => e = .returned (.int .i64 (ramM m a s)) ∧ Kept w w' := by
  have C := hid (fun u => rwin_any a u)
  by_cases c1 : s < 1
  · have E := hid (show ramM m a s = -1 by unfold ramM; rw [if_pos (.inl c1)])
    have d1 : decide (s < 1) = true := decide_eq_true c1
    go_enter Tryz.func32, Tryz.ntmps32
    go_wp2
    go_ret
    exact ⟨by rw [E.out]; rfl, by repeat (first | with_reducible exact Kept.refl _ | with_reducible refine Kept.alloc ?_ _)⟩
  have d1 : decide (s < 1) = false := decide_eq_false c1
  cases hw : inWin a
  · have E := hid (show ramM m a s = -1 by unfold ramM; rw [if_pos (.inr (.inl hw))])
    rw [hw] at C
    clear hw
    go_enter Tryz.func32, Tryz.ntmps32
    go_wp2_with (go_at_call 61; refine (C.out _).mono ?_; rintro e w' ⟨rfl, rfl⟩)
    go_ret
    exact ⟨by rw [E.out]; rfl, by repeat (first | with_reducible exact Kept.refl _ | with_reducible refine Kept.alloc ?_ _)⟩
  have a2 : 40960 ≤ a ∧ a ≤ 49151 := by unfold inWin at hw; simpa using hw
  obtain ⟨a3, a4⟩ := a2
  have E := hid (show ramM m a s = if ramNo m = true then -1 else (8192 * ramB m + a - 40960) % s by
    unfold ramM
    rw [hw]
    by_cases q : ramNo m = true
    · rw [if_pos (.inr (.inr q)), if_pos q]
    · rw [if_neg (by simp [c1, q]), if_neg q])
  rw [hw] at C
  obtain ⟨b0, b1⟩ := ramB_bd m M
  obtain ⟨kind, op, low, high, ram, mode⟩ := m
  have h0 : 0 ≤ high := M.h0
  have h1 : high ≤ 255 := M.h1
  have r0 : 0 ≤ ram := M.r0
  have r1 : ram ≤ 255 := M.r1
  have sz : ¬ (s = 0) := by omega
  have wa : IntKind.i64.wrap a = a := by rw [IntKind.wrap_i64]; omega
  have wh : IntKind.i64.wrap high = high := by rw [IntKind.wrap_i64]; omega
  have wr : IntKind.i64.wrap ram = ram := by rw [IntKind.wrap_i64]; omega
  obtain ⟨t0, t01, t02⟩ := mod_bd (a - 40960) s (by omega) (by omega) (by omega)
  obtain ⟨th, th1, th2⟩ := mod_bd (8192 * high + a - 40960) s (by omega) (by omega) (by omega)
  obtain ⟨tr, tr1, tr2⟩ := mod_bd (8192 * ram + a - 40960) s (by omega) (by omega) (by omega)
  have x0 : IntKind.i64.wrap (a - 40960) = a - 40960 := by rw [IntKind.wrap_i64]; omega
  have x1 : IntKind.i64.wrap (8192 * high) = 8192 * high := by rw [IntKind.wrap_i64]; omega
  have x2 : IntKind.i64.wrap (8192 * high + a) = 8192 * high + a := by rw [IntKind.wrap_i64]; omega
  have x3 : IntKind.i64.wrap (8192 * high + a - 40960) = 8192 * high + a - 40960 := by rw [IntKind.wrap_i64]; omega
  have x4 : IntKind.i64.wrap (8192 * ram) = 8192 * ram := by rw [IntKind.wrap_i64]; omega
  have x5 : IntKind.i64.wrap (8192 * ram + a) = 8192 * ram + a := by rw [IntKind.wrap_i64]; omega
  have x6 : IntKind.i64.wrap (8192 * ram + a - 40960) = 8192 * ram + a - 40960 := by rw [IntKind.wrap_i64]; omega
  obtain ⟨R0, hR0⟩ : ∃ v, (a - 40960) % s = v := ⟨_, rfl⟩
  obtain ⟨Rh, hRh⟩ : ∃ v, (8192 * high + a - 40960) % s = v := ⟨_, rfl⟩
  obtain ⟨Rr, hRr⟩ : ∃ v, (8192 * ram + a - 40960) % s = v := ⟨_, rfl⟩
  have HR0 := hid hR0
  have HRh := hid hRh
  have HRr := hid hRr
  rw [hR0] at t0 t01 t02
  rw [hRh] at th th1 th2
  rw [hRr] at tr tr1 tr2
  have y0 : IntKind.i64.wrap R0 = R0 := by rw [IntKind.wrap_i64]; omega
  have yh : IntKind.i64.wrap Rh = Rh := by rw [IntKind.wrap_i64]; omega
  have yr : IntKind.i64.wrap Rr = Rr := by rw [IntKind.wrap_i64]; omega
  clear M hw b0 b1 hR0 hRh hRr
  have r7 : ram ≤ 7 ∨ 7 < ram := by omega
  rcases kinds_of kind with rfl | rfl | rfl | ⟨n1, n3, n5⟩
  · cases op
    · go_enter Tryz.func32, Tryz.ntmps32
      go_wp2_with (go_at_call 61; refine (C.out _).mono ?_; rintro e w' ⟨rfl, rfl⟩)
      go_ret
      exact ⟨by rw [E.out]; simp [ramNo], by repeat (first | with_reducible exact Kept.refl _ | with_reducible refine Kept.alloc ?_ _)⟩
    · cases mode
      all_goals
        go_enter Tryz.func32, Tryz.ntmps32
        go_wp2_with (go_at_call 61; refine (C.out _).mono ?_; rintro e w' ⟨rfl, rfl⟩)
        go_ret
        exact ⟨by rw [E.out]; simp [ramNo, ramB, HR0.out, HRh.out], by repeat (first | with_reducible exact Kept.refl _ | with_reducible refine Kept.alloc ?_ _)⟩
  · cases op
    · go_enter Tryz.func32, Tryz.ntmps32
      go_wp2_with (go_at_call 61; refine (C.out _).mono ?_; rintro e w' ⟨rfl, rfl⟩)
      go_ret
      exact ⟨by rw [E.out]; simp [ramNo], by repeat (first | with_reducible exact Kept.refl _ | with_reducible refine Kept.alloc ?_ _)⟩
    · rcases r7 with r7 | r7
      · have r8 : ¬ (7 < ram) := by omega
        have d8 : decide (7 < ram) = false := decide_eq_false r8
        go_enter Tryz.func32, Tryz.ntmps32
        go_wp2_with (go_at_call 61; refine (C.out _).mono ?_; rintro e w' ⟨rfl, rfl⟩)
        go_ret
        exact ⟨by rw [E.out]; simp [ramNo, ramB, HRr.out]; omega, by repeat (first | with_reducible exact Kept.refl _ | with_reducible refine Kept.alloc ?_ _)⟩
      · have d8 : decide (7 < ram) = true := decide_eq_true r7
        go_enter Tryz.func32, Tryz.ntmps32
        go_wp2_with (go_at_call 61; refine (C.out _).mono ?_; rintro e w' ⟨rfl, rfl⟩)
        go_ret
        exact ⟨by rw [E.out]; simp [ramNo, r7], by repeat (first | with_reducible exact Kept.refl _ | with_reducible refine Kept.alloc ?_ _)⟩
  · cases op
    all_goals
      go_enter Tryz.func32, Tryz.ntmps32
      go_wp2_with (go_at_call 61; refine (C.out _).mono ?_; rintro e w' ⟨rfl, rfl⟩)
      go_ret
      exact ⟨by rw [E.out]; simp [ramNo, ramB, HRr.out], by repeat (first | with_reducible exact Kept.refl _ | with_reducible refine Kept.alloc ?_ _)⟩
  · have b1 : (kind == 1) = false := by simpa using n1
    have b3 : (kind == 3) = false := by simpa using n3
    have b5 : (kind == 5) = false := by simpa using n5
    go_enter Tryz.func32, Tryz.ntmps32
    go_wp2_with (go_at_call 61; refine (C.out _).mono ?_; rintro e w' ⟨rfl, rfl⟩)
    go_ret
    exact ⟨by rw [E.out]; simp [ramNo, ramB, n1, n3, n5, HR0.out], by repeat (first | with_reducible exact Kept.refl _ | with_reducible refine Kept.alloc ?_ _)⟩
set_option maxRecDepth 100000 in
set_option maxHeartbeats 4000000 in
theorem rreg_any (m : Mp) (a : Int) (w : World) (M : MpIn m) :
    Calls Tryz.prog 59 #[.agg #[.int .i64 m.kind, .bool m.op, .int .u8 m.low, .int .u8 m.high, .int .u8 m.ram, .bool m.mode], .int .u16 a] w fun e w' => e = .returned (.int .i64 (regM m a)) ∧ Kept w w' := by
  have C := hid (fun u => rwin_any a u)
  obtain ⟨kind, op, low, high, ram, mode⟩ := m
  have r0 : 0 ≤ ram := M.r0
  have r1 : ram ≤ 255 := M.r1
  have wr : IntKind.i64.wrap ram = ram := by rw [IntKind.wrap_i64]; omega
  clear M
  by_cases hk : kind = 3
  · subst hk
    cases op
    · go_enter Tryz.func59, Tryz.ntmps59
      go_wp2
      go_ret
      exact ⟨by simp [regM], by repeat (first | with_reducible exact Kept.refl _ | with_reducible refine Kept.alloc ?_ _)⟩
    · cases hw : inWin a
      · have E := hid (show regM ⟨3, true, low, high, ram, mode⟩ a = 0 by unfold regM; rw [if_neg (by simp [hw])])
        rw [hw] at C
        clear hw
        go_enter Tryz.func59, Tryz.ntmps59
        go_wp2_with (go_at_call 61; refine (C.out _).mono ?_; rintro e w' ⟨rfl, rfl⟩)
        go_ret
        exact ⟨by rw [E.out]; rfl, by repeat (first | with_reducible exact Kept.refl _ | with_reducible refine Kept.alloc ?_ _)⟩
      · by_cases c8 : 8 ≤ ram
        · by_cases c12 : ram ≤ 12
          · have E := hid (show regM ⟨3, true, low, high, ram, mode⟩ a = ram by unfold regM; rw [if_pos (by simp [hw, c8, c12])])
            rw [hw] at C
            clear hw
            have d8 : decide (8 ≤ ram) = true := decide_eq_true c8
            have d12 : decide (ram ≤ 12) = true := decide_eq_true c12
            go_enter Tryz.func59, Tryz.ntmps59
            go_wp2_with (go_at_call 61; refine (C.out _).mono ?_; rintro e w' ⟨rfl, rfl⟩)
            go_ret
            exact ⟨by rw [E.out]; rfl, by repeat (first | with_reducible exact Kept.refl _ | with_reducible refine Kept.alloc ?_ _)⟩
          · have E := hid (show regM ⟨3, true, low, high, ram, mode⟩ a = 0 by unfold regM; rw [if_neg (by simp [hw, c8, c12])])
            rw [hw] at C
            clear hw
            have d8 : decide (8 ≤ ram) = true := decide_eq_true c8
            have d12 : decide (ram ≤ 12) = false := decide_eq_false c12
            go_enter Tryz.func59, Tryz.ntmps59
            go_wp2_with (go_at_call 61; refine (C.out _).mono ?_; rintro e w' ⟨rfl, rfl⟩)
            go_ret
            exact ⟨by rw [E.out]; rfl, by repeat (first | with_reducible exact Kept.refl _ | with_reducible refine Kept.alloc ?_ _)⟩
        · have E := hid (show regM ⟨3, true, low, high, ram, mode⟩ a = 0 by unfold regM; rw [if_neg (by simp [hw, c8])])
          rw [hw] at C
          clear hw
          have d8 : decide (8 ≤ ram) = false := decide_eq_false c8
          go_enter Tryz.func59, Tryz.ntmps59
          go_wp2_with (go_at_call 61; refine (C.out _).mono ?_; rintro e w' ⟨rfl, rfl⟩)
          go_ret
          exact ⟨by rw [E.out]; rfl, by repeat (first | with_reducible exact Kept.refl _ | with_reducible refine Kept.alloc ?_ _)⟩
  · have b3 : (kind == 3) = false := by simpa using hk
    go_enter Tryz.func59, Tryz.ntmps59
    go_wp2
    go_ret
    exact ⟨by simp [regM, hk], by repeat (first | with_reducible exact Kept.refl _ | with_reducible refine Kept.alloc ?_ _)⟩
end Go.Proofs.YtfmddnekooojkaaGreatDoor
namespace Go.Proofs.YtfmddnekooojkaaGreatDoor
open Go.RowKit
set_option linter.unusedVariables false
set_option linter.unusedSimpArgs false

set_option maxRecDepth 100000 in
set_option maxHeartbeats 8000000 in
theorem rwrite_any (c : Ck) (r v : Int) (w : World) (I : CkIn c) (v0 : 0 ≤ v) (v1 : v ≤ 255) : Calls Tryz.prog 36 #[ckV c, .int .i64 r, .int .u8 v] w fun e w' => e = .returned (.tuple #[ckV (writeC c r v), .int .i64 (regE r)]) ∧ Grown w w' := by
  have CN := hid (fun u => rnorm_any c u I)
  have O := norm_ok I
  have NO := hid (fun h => (⟨writeC_no c r v h, (readC_no c r h).2⟩ : writeC c r v = ck0 ∧ regE r = 7))
  unfold writeC at *
  obtain ⟨N, hN⟩ : ∃ v, normC c = v := ⟨_, rfl⟩
  rw [hN] at O CN NO ⊢
  clear hN I
  obtain ⟨sec, min, hour, day, halt, carry⟩ := N
  obtain ⟨a, b, d, e, f, g, i, j⟩ := O
  simp only at a b d e f g i j
  have t1 : Int.tmod day 256 = day % 256 := Int.tmod_eq_emod_of_nonneg i
  have t2 : Int.tdiv day 256 = day / 256 := Int.tdiv_eq_ediv_of_nonneg i
  have t3 : Int.tmod v 64 = v % 64 := Int.tmod_eq_emod_of_nonneg v0
  have t4 : Int.tmod v 32 = v % 32 := Int.tmod_eq_emod_of_nonneg v0
  have t5 : Int.tmod v 2 = v % 2 := Int.tmod_eq_emod_of_nonneg v0
  have t6 : Int.tdiv v 64 = v / 64 := Int.tdiv_eq_ediv_of_nonneg v0
  have t7 : Int.tmod (v / 64) 2 = v / 64 % 2 := Int.tmod_eq_emod_of_nonneg (by omega)
  have w1 : IntKind.u16.wrap (day % 256) = day % 256 := by rw [IntKind.wrap_u16]; omega
  have w3 : IntKind.u16.wrap (day / 256) = day / 256 := by rw [IntKind.wrap_u16]; omega
  have w4 : IntKind.u16.wrap (day / 256 * 256) = day / 256 * 256 := by rw [IntKind.wrap_u16]; omega
  have w5 : IntKind.u16.wrap v = v := by rw [IntKind.wrap_u16]; omega
  have w6 : IntKind.u16.wrap (day / 256 * 256 + v) = day / 256 * 256 + v := by rw [IntKind.wrap_u16]; omega
  have w7 : IntKind.u8.wrap (v % 64) = v % 64 := by rw [IntKind.wrap_u8]; omega
  have w8 : IntKind.u8.wrap (v % 32) = v % 32 := by rw [IntKind.wrap_u8]; omega
  have w9 : IntKind.u8.wrap (v % 2) = v % 2 := by rw [IntKind.wrap_u8]; omega
  have wa : IntKind.u16.wrap (v % 2) = v % 2 := by rw [IntKind.wrap_u16]; omega
  have wb : IntKind.u16.wrap (v % 2 * 256) = v % 2 * 256 := by rw [IntKind.wrap_u16]; omega
  have wc : IntKind.u16.wrap (day % 256 + v % 2 * 256) = day % 256 + v % 2 * 256 := by rw [IntKind.wrap_u16]; omega
  have wd : IntKind.u8.wrap (v / 64) = v / 64 := by rw [IntKind.wrap_u8]; omega
  have we : IntKind.u8.wrap (v / 64 % 2) = v / 64 % 2 := by rw [IntKind.wrap_u8]; omega
  have z4 : day / 256 * 256 % 65536 = day / 256 * 256 := by omega
  have z6 : (day / 256 * 256 + v) % 65536 = day / 256 * 256 + v := by omega
  have zb : v % 2 * 256 % 65536 = v % 2 * 256 := by omega
  have zc : (day % 256 + v % 2 * 256) % 65536 = day % 256 + v % 2 * 256 := by omega
  rcases regs_of r with rfl | rfl | rfl | rfl | rfl | hr
  · have E := hid (show writeN ⟨sec, min, hour, day, halt, carry⟩ 8 v = ⟨v % 64, min, hour, day, halt, carry⟩ ∧ regE 8 = 0 from ⟨rfl, rfl⟩)
    go_enter Tryz.func36, Tryz.ntmps36
    go_wp2_with fail
    refine (CN.out _).mono ?_
    rintro e u1 ⟨rfl, g1⟩
    obtain ⟨hR, fR⟩ := mine ((alloc1 w _ _).alloc _ _) (Kept.of g1) (has_alloc (w.alloc (.cells #[.int .u8 c.sec, .int .u8 c.min, .int .u8 c.hour, .int .u16 c.day, .bool c.halt, .bool c.carry] 35)) #[.int .u8 0, .int .u8 0, .int .u8 0, .int .u16 0, .bool false, .bool false] 35) (by simp)
    simp only [World.size_alloc] at hR fR
    have G1 := hid (grown_trans ((alloc1 w _ _).alloc _ _) g1)
    obtain ⟨zR, cR⟩ := id hR
    have r0 := cR 0
    have r1 := cR 1
    have r2 := cR 2
    have r3 := cR 3
    have r4 := cR 4
    have r5 := cR 5
    simp at r0 r1 r2 r3 r4 r5
    have y1 : w.heap.size + 1 ≠ u1.heap.size := by omega
    have y2 : w.heap.size + 1 < u1.heap.size + 1 := by omega
    clear g1 hR cR
    go_wp2
    exact bodyPost_ret (v := .tuple #[.agg #[.int .u8 (v % 64), .int .u8 (min), .int .u8 (hour), .int .u16 (day), .bool halt, .bool carry], .int .i64 0]) (by simp [results, Tryz.results36, go_sem, r0, r1, r2, r3, r4, r5, zR, y1, y2]) rfl ⟨by rw [E.out.1, E.out.2], by repeat (first | with_reducible exact G1.out | with_reducible refine Grown.alloc ?_ _ _ | with_reducible refine Grown.setCell ?_ (Nat.le_succ _) _)⟩
  · have E := hid (show writeN ⟨sec, min, hour, day, halt, carry⟩ 9 v = ⟨sec, v % 64, hour, day, halt, carry⟩ ∧ regE 9 = 0 from ⟨rfl, rfl⟩)
    go_enter Tryz.func36, Tryz.ntmps36
    go_wp2_with fail
    refine (CN.out _).mono ?_
    rintro e u1 ⟨rfl, g1⟩
    obtain ⟨hR, fR⟩ := mine ((alloc1 w _ _).alloc _ _) (Kept.of g1) (has_alloc (w.alloc (.cells #[.int .u8 c.sec, .int .u8 c.min, .int .u8 c.hour, .int .u16 c.day, .bool c.halt, .bool c.carry] 35)) #[.int .u8 0, .int .u8 0, .int .u8 0, .int .u16 0, .bool false, .bool false] 35) (by simp)
    simp only [World.size_alloc] at hR fR
    have G1 := hid (grown_trans ((alloc1 w _ _).alloc _ _) g1)
    obtain ⟨zR, cR⟩ := id hR
    have r0 := cR 0
    have r1 := cR 1
    have r2 := cR 2
    have r3 := cR 3
    have r4 := cR 4
    have r5 := cR 5
    simp at r0 r1 r2 r3 r4 r5
    have y1 : w.heap.size + 1 ≠ u1.heap.size := by omega
    have y2 : w.heap.size + 1 < u1.heap.size + 1 := by omega
    clear g1 hR cR
    go_wp2
    exact bodyPost_ret (v := .tuple #[.agg #[.int .u8 (sec), .int .u8 (v % 64), .int .u8 (hour), .int .u16 (day), .bool halt, .bool carry], .int .i64 0]) (by simp [results, Tryz.results36, go_sem, r0, r1, r2, r3, r4, r5, zR, y1, y2]) rfl ⟨by rw [E.out.1, E.out.2], by repeat (first | with_reducible exact G1.out | with_reducible refine Grown.alloc ?_ _ _ | with_reducible refine Grown.setCell ?_ (Nat.le_succ _) _)⟩
  · have E := hid (show writeN ⟨sec, min, hour, day, halt, carry⟩ 10 v = ⟨sec, min, v % 32, day, halt, carry⟩ ∧ regE 10 = 0 from ⟨rfl, rfl⟩)
    go_enter Tryz.func36, Tryz.ntmps36
    go_wp2_with fail
    refine (CN.out _).mono ?_
    rintro e u1 ⟨rfl, g1⟩
    obtain ⟨hR, fR⟩ := mine ((alloc1 w _ _).alloc _ _) (Kept.of g1) (has_alloc (w.alloc (.cells #[.int .u8 c.sec, .int .u8 c.min, .int .u8 c.hour, .int .u16 c.day, .bool c.halt, .bool c.carry] 35)) #[.int .u8 0, .int .u8 0, .int .u8 0, .int .u16 0, .bool false, .bool false] 35) (by simp)
    simp only [World.size_alloc] at hR fR
    have G1 := hid (grown_trans ((alloc1 w _ _).alloc _ _) g1)
    obtain ⟨zR, cR⟩ := id hR
    have r0 := cR 0
    have r1 := cR 1
    have r2 := cR 2
    have r3 := cR 3
    have r4 := cR 4
    have r5 := cR 5
    simp at r0 r1 r2 r3 r4 r5
    have y1 : w.heap.size + 1 ≠ u1.heap.size := by omega
    have y2 : w.heap.size + 1 < u1.heap.size + 1 := by omega
    clear g1 hR cR
    go_wp2
    exact bodyPost_ret (v := .tuple #[.agg #[.int .u8 (sec), .int .u8 (min), .int .u8 (v % 32), .int .u16 (day), .bool halt, .bool carry], .int .i64 0]) (by simp [results, Tryz.results36, go_sem, r0, r1, r2, r3, r4, r5, zR, y1, y2]) rfl ⟨by rw [E.out.1, E.out.2], by repeat (first | with_reducible exact G1.out | with_reducible refine Grown.alloc ?_ _ _ | with_reducible refine Grown.setCell ?_ (Nat.le_succ _) _)⟩
  · have E := hid (show writeN ⟨sec, min, hour, day, halt, carry⟩ 11 v = ⟨sec, min, hour, day / 256 * 256 + v, halt, carry⟩ ∧ regE 11 = 0 from ⟨rfl, rfl⟩)
    go_enter Tryz.func36, Tryz.ntmps36
    go_wp2_with fail
    refine (CN.out _).mono ?_
    rintro e u1 ⟨rfl, g1⟩
    obtain ⟨hR, fR⟩ := mine ((alloc1 w _ _).alloc _ _) (Kept.of g1) (has_alloc (w.alloc (.cells #[.int .u8 c.sec, .int .u8 c.min, .int .u8 c.hour, .int .u16 c.day, .bool c.halt, .bool c.carry] 35)) #[.int .u8 0, .int .u8 0, .int .u8 0, .int .u16 0, .bool false, .bool false] 35) (by simp)
    simp only [World.size_alloc] at hR fR
    have G1 := hid (grown_trans ((alloc1 w _ _).alloc _ _) g1)
    obtain ⟨zR, cR⟩ := id hR
    have r0 := cR 0
    have r1 := cR 1
    have r2 := cR 2
    have r3 := cR 3
    have r4 := cR 4
    have r5 := cR 5
    simp at r0 r1 r2 r3 r4 r5
    have y1 : w.heap.size + 1 ≠ u1.heap.size := by omega
    have y2 : w.heap.size + 1 < u1.heap.size + 1 := by omega
    clear g1 hR cR
    go_wp2
    exact bodyPost_ret (v := .tuple #[.agg #[.int .u8 (sec), .int .u8 (min), .int .u8 (hour), .int .u16 (day / 256 * 256 + v), .bool halt, .bool carry], .int .i64 0]) (by simp [results, Tryz.results36, go_sem, r0, r1, r2, r3, r4, r5, zR, y1, y2]) rfl ⟨by rw [E.out.1, E.out.2], by repeat (first | with_reducible exact G1.out | with_reducible refine Grown.alloc ?_ _ _ | with_reducible refine Grown.setCell ?_ (Nat.le_succ _) _)⟩
  · have E := hid (show writeN ⟨sec, min, hour, day, halt, carry⟩ 12 v = ⟨sec, min, hour, day % 256 + v % 2 * 256, (v / 64 % 2 == 1), (decide (128 ≤ v))⟩ ∧ regE 12 = 0 from ⟨rfl, rfl⟩)
    go_enter Tryz.func36, Tryz.ntmps36
    go_wp2_with fail
    refine (CN.out _).mono ?_
    rintro e u1 ⟨rfl, g1⟩
    obtain ⟨hR, fR⟩ := mine ((alloc1 w _ _).alloc _ _) (Kept.of g1) (has_alloc (w.alloc (.cells #[.int .u8 c.sec, .int .u8 c.min, .int .u8 c.hour, .int .u16 c.day, .bool c.halt, .bool c.carry] 35)) #[.int .u8 0, .int .u8 0, .int .u8 0, .int .u16 0, .bool false, .bool false] 35) (by simp)
    simp only [World.size_alloc] at hR fR
    have G1 := hid (grown_trans ((alloc1 w _ _).alloc _ _) g1)
    obtain ⟨zR, cR⟩ := id hR
    have r0 := cR 0
    have r1 := cR 1
    have r2 := cR 2
    have r3 := cR 3
    have r4 := cR 4
    have r5 := cR 5
    simp at r0 r1 r2 r3 r4 r5
    have y1 : w.heap.size + 1 ≠ u1.heap.size := by omega
    have y2 : w.heap.size + 1 < u1.heap.size + 1 := by omega
    clear g1 hR cR
    go_wp2
    exact bodyPost_ret (v := .tuple #[.agg #[.int .u8 (sec), .int .u8 (min), .int .u8 (hour), .int .u16 (day % 256 + v % 2 * 256), .bool (v / 64 % 2 == 1), .bool (decide (128 ≤ v))], .int .i64 0]) (by simp [results, Tryz.results36, go_sem, r0, r1, r2, r3, r4, r5, zR, y1, y2]) rfl ⟨by rw [E.out.1, E.out.2], by repeat (first | with_reducible exact G1.out | with_reducible refine Grown.alloc ?_ _ _ | with_reducible refine Grown.setCell ?_ (Nat.le_succ _) _)⟩
  · obtain ⟨h1, h2, h3, h4, h5⟩ := id hr
    have b1 : (r == 8) = false := by simpa using h1
    have b2 : (r == 9) = false := by simpa using h2
    have b3 : (r == 10) = false := by simpa using h3
    have b4 : (r == 11) = false := by simpa using h4
    have b5 : (r == 12) = false := by simpa using h5
    have E := hid (NO.out hr)
    clear hr NO h1 h2 h3 h4 h5
    go_enter Tryz.func36, Tryz.ntmps36
    go_wp2_with fail
    refine (CN.out _).mono ?_
    rintro e u1 ⟨rfl, g1⟩
    obtain ⟨hR, fR⟩ := mine ((alloc1 w _ _).alloc _ _) (Kept.of g1) (has_alloc (w.alloc (.cells #[.int .u8 c.sec, .int .u8 c.min, .int .u8 c.hour, .int .u16 c.day, .bool c.halt, .bool c.carry] 35)) #[.int .u8 0, .int .u8 0, .int .u8 0, .int .u16 0, .bool false, .bool false] 35) (by simp)
    simp only [World.size_alloc] at hR fR
    have G1 := hid (grown_trans ((alloc1 w _ _).alloc _ _) g1)
    obtain ⟨zR, cR⟩ := id hR
    have r0 := cR 0
    have r1 := cR 1
    have r2 := cR 2
    have r3 := cR 3
    have r4 := cR 4
    have r5 := cR 5
    simp at r0 r1 r2 r3 r4 r5
    have y1 : w.heap.size + 1 ≠ u1.heap.size := by omega
    have y2 : w.heap.size + 1 < u1.heap.size + 1 := by omega
    clear g1 hR cR
    go_wp2
    exact bodyPost_ret (v := .tuple #[.agg #[.int .u8 (0), .int .u8 (0), .int .u8 (0), .int .u16 (0), .bool false, .bool false], .int .i64 7]) (by simp [results, Tryz.results36, go_sem, r0, r1, r2, r3, r4, r5, zR, y1, y2]) rfl ⟨by rw [E.out.1, E.out.2]; rfl, by repeat (first | with_reducible exact G1.out | with_reducible refine Grown.alloc ?_ _ _ | with_reducible refine Grown.setCell ?_ (Nat.le_succ _) _)⟩
end Go.Proofs.YtfmddnekooojkaaGreatDoor
