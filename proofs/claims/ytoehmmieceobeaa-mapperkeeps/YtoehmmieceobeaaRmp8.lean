/- What the document's answers of layer 8 come to. -/
import Derived.Test.YtoehmmieceobeaaRmp8w1
import Derived.Test.YtoehmmieceobeaaRmp8w3
import Derived.Test.YtoehmmieceobeaaRmp8w5
import Derived.Test.YtoehmmieceobeaaRmp8w0
import Derived.Test.YtoehmmieceobeaaChecked
import Derived.Deep.QuietTactic
import Derived.BigQuiet
namespace Go.Proofs.Ytoehmmieceobeaa
open Go.RowKit
set_option linter.unusedVariables false
set_option linter.unusedSimpArgs false

abbrev mpV (m : Mp) : Value := .agg #[.int .i64 m.kind, .bool m.op, .int .u8 m.low, .int .u8 m.high, .int .u8 m.ram, .bool m.mode]
theorem zone_of (a : Int) : zone a = 0 ∧ a < 8192 ∨ zone a = 1 ∧ 8192 ≤ a ∧ a < 12288 ∨ zone a = 2 ∧ 12288 ≤ a ∧ a < 16384 ∨ zone a = 3 ∧ 16384 ≤ a ∧ a < 24576 ∨ zone a = 4 ∧ 24576 ≤ a ∧ a < 32768 ∨ zone a = 5 ∧ 32768 ≤ a := by
  unfold zone
  repeat' split
  all_goals omega
theorem rwr_any (m : Mp) (a v : Int) (w : World) (a0 : 0 ≤ a) (a1 : a ≤ 65535) (v0 : 0 ≤ v) (v1 : v ≤ 255) :
    Calls Try.prog 13 #[.agg #[.int .i64 m.kind, .bool m.op, .int .u8 m.low, .int .u8 m.high, .int .u8 m.ram, .bool m.mode], .int .u16 a, .int .u8 v] w fun e w' => e = .returned (mpV (writeM m a v)) ∧ Kept w w' := by
  have Z : zone a = 0 ∧ a < 8192 ∨ zone a = 1 ∧ 8192 ≤ a ∧ a < 12288 ∨ zone a = 2 ∧ 12288 ≤ a ∧ a < 16384 ∨ zone a = 3 ∧ 16384 ≤ a ∧ a < 24576 ∨ zone a = 4 ∧ 24576 ≤ a ∧ a < 32768 ∨ zone a = 5 ∧ 32768 ≤ a := zone_of a
  obtain ⟨kind, op, low, high, ram, mode⟩ := m
  unfold writeM writeZ
  rcases kinds_of kind with rfl | rfl | rfl | ⟨n1, n3, n5⟩
  · rcases Z with ⟨z, ha⟩ | ⟨z, ha⟩ | ⟨z, ha⟩ | ⟨z, ha⟩ | ⟨z, ha⟩ | ⟨z, ha⟩
    · rw [z]; rw [if_pos rfl]; exact rwr10 ⟨1, op, low, high, ram, mode⟩ a v w a0 a1 v0 v1 ha
    · rw [z]; rw [if_pos rfl]; exact rwr11 ⟨1, op, low, high, ram, mode⟩ a v w a0 a1 v0 v1 ha
    · rw [z]; rw [if_pos rfl]; exact rwr12 ⟨1, op, low, high, ram, mode⟩ a v w a0 a1 v0 v1 ha
    · rw [z]; rw [if_pos rfl]; exact rwr13 ⟨1, op, low, high, ram, mode⟩ a v w a0 a1 v0 v1 ha
    · rw [z]; rw [if_pos rfl]; exact rwr14 ⟨1, op, low, high, ram, mode⟩ a v w a0 a1 v0 v1 ha
    · rw [z]; rw [if_pos rfl]; exact rwr15 ⟨1, op, low, high, ram, mode⟩ a v w a0 a1 v0 v1 ha
  · rcases Z with ⟨z, ha⟩ | ⟨z, ha⟩ | ⟨z, ha⟩ | ⟨z, ha⟩ | ⟨z, ha⟩ | ⟨z, ha⟩
    · rw [z]; rw [if_neg (show (3 : Int) ≠ 1 by decide), if_pos rfl]; exact rwr30 ⟨3, op, low, high, ram, mode⟩ a v w a0 a1 v0 v1 ha
    · rw [z]; rw [if_neg (show (3 : Int) ≠ 1 by decide), if_pos rfl]; exact rwr31 ⟨3, op, low, high, ram, mode⟩ a v w a0 a1 v0 v1 ha
    · rw [z]; rw [if_neg (show (3 : Int) ≠ 1 by decide), if_pos rfl]; exact rwr32 ⟨3, op, low, high, ram, mode⟩ a v w a0 a1 v0 v1 ha
    · rw [z]; rw [if_neg (show (3 : Int) ≠ 1 by decide), if_pos rfl]; exact rwr33 ⟨3, op, low, high, ram, mode⟩ a v w a0 a1 v0 v1 ha
    · rw [z]; rw [if_neg (show (3 : Int) ≠ 1 by decide), if_pos rfl]; exact rwr34 ⟨3, op, low, high, ram, mode⟩ a v w a0 a1 v0 v1 ha
    · rw [z]; rw [if_neg (show (3 : Int) ≠ 1 by decide), if_pos rfl]; exact rwr35 ⟨3, op, low, high, ram, mode⟩ a v w a0 a1 v0 v1 ha
  · rcases Z with ⟨z, ha⟩ | ⟨z, ha⟩ | ⟨z, ha⟩ | ⟨z, ha⟩ | ⟨z, ha⟩ | ⟨z, ha⟩
    · rw [z]; rw [if_neg (show (5 : Int) ≠ 1 by decide), if_neg (show (5 : Int) ≠ 3 by decide), if_pos rfl]; exact rwr50 ⟨5, op, low, high, ram, mode⟩ a v w a0 a1 v0 v1 ha
    · rw [z]; rw [if_neg (show (5 : Int) ≠ 1 by decide), if_neg (show (5 : Int) ≠ 3 by decide), if_pos rfl]; exact rwr51 ⟨5, op, low, high, ram, mode⟩ a v w a0 a1 v0 v1 ha
    · rw [z]; rw [if_neg (show (5 : Int) ≠ 1 by decide), if_neg (show (5 : Int) ≠ 3 by decide), if_pos rfl]; exact rwr52 ⟨5, op, low, high, ram, mode⟩ a v w a0 a1 v0 v1 ha
    · rw [z]; rw [if_neg (show (5 : Int) ≠ 1 by decide), if_neg (show (5 : Int) ≠ 3 by decide), if_pos rfl]; exact rwr53 ⟨5, op, low, high, ram, mode⟩ a v w a0 a1 v0 v1 ha
    · rw [z]; rw [if_neg (show (5 : Int) ≠ 1 by decide), if_neg (show (5 : Int) ≠ 3 by decide), if_pos rfl]; exact rwr54 ⟨5, op, low, high, ram, mode⟩ a v w a0 a1 v0 v1 ha
    · rw [z]; rw [if_neg (show (5 : Int) ≠ 1 by decide), if_neg (show (5 : Int) ≠ 3 by decide), if_pos rfl]; exact rwr55 ⟨5, op, low, high, ram, mode⟩ a v w a0 a1 v0 v1 ha
  · rcases Z with ⟨z, ha⟩ | ⟨z, ha⟩ | ⟨z, ha⟩ | ⟨z, ha⟩ | ⟨z, ha⟩ | ⟨z, ha⟩
    · rw [z]; rw [if_neg n1, if_neg n3, if_neg n5]; exact rwr00 ⟨kind, op, low, high, ram, mode⟩ a v w a0 a1 v0 v1 ha n1 n3 n5
    · rw [z]; rw [if_neg n1, if_neg n3, if_neg n5]; exact rwr01 ⟨kind, op, low, high, ram, mode⟩ a v w a0 a1 v0 v1 ha n1 n3 n5
    · rw [z]; rw [if_neg n1, if_neg n3, if_neg n5]; exact rwr02 ⟨kind, op, low, high, ram, mode⟩ a v w a0 a1 v0 v1 ha n1 n3 n5
    · rw [z]; rw [if_neg n1, if_neg n3, if_neg n5]; exact rwr03 ⟨kind, op, low, high, ram, mode⟩ a v w a0 a1 v0 v1 ha n1 n3 n5
    · rw [z]; rw [if_neg n1, if_neg n3, if_neg n5]; exact rwr04 ⟨kind, op, low, high, ram, mode⟩ a v w a0 a1 v0 v1 ha n1 n3 n5
    · rw [z]; rw [if_neg n1, if_neg n3, if_neg n5]; exact rwr05 ⟨kind, op, low, high, ram, mode⟩ a v w a0 a1 v0 v1 ha n1 n3 n5
set_option maxRecDepth 100000 in
theorem rnew_any (k : Int) (w : World) : Calls Try.prog 11 #[.int .i64 k] w fun e w' => e = .returned (.tuple #[mpV (newR k), .int .i64 (newE k)]) ∧ Kept w w' := by
  by_cases h : k = 0 ∨ k = 1 ∨ k = 3 ∨ k = 5
  · rcases h with rfl | rfl | rfl | rfl
    all_goals
      go_enter Try.func11, Try.ntmps11
      go_wp2
      exact bodyPost_ret (v := .tuple #[mpV (newM _), .int .i64 0]) (by simp [results, Try.results11, go_sem, newM]; try rfl) rfl ⟨rfl, by repeat (first | with_reducible exact Kept.refl _ | with_reducible refine Kept.alloc ?_ _ | with_reducible refine Kept.setCell ?_ (Nat.le_refl _) _ _)⟩
  · have b0 : (k != 0) = true := by simp; omega
    have b1 : (k != 1) = true := by simp; omega
    have b3 : (k != 3) = true := by simp; omega
    have b5 : (k != 5) = true := by simp; omega
    have E : newOk k = false := by unfold newOk; simp; omega
    have E1 := hid (show newR k = mp0 by unfold newR; rw [E]; rfl)
    have E2 := hid (show newE k = 4 by unfold newE; rw [E]; rfl)
    clear E h
    go_enter Try.func11, Try.ntmps11
    go_wp2
    exact bodyPost_ret (v := .tuple #[mpV mp0, .int .i64 4]) (by simp [results, Try.results11, go_sem, mp0]) rfl ⟨by rw [E1.out, E2.out], by repeat (first | with_reducible exact Kept.refl _ | with_reducible refine Kept.alloc ?_ _ | with_reducible refine Kept.setCell ?_ (Nat.le_refl _) _ _)⟩
def halfOk (h : Nat) (a : Int) : Prop := h = 0 ∧ a < 16384 ∨ h = 1 ∧ 16384 ≤ a ∧ a < 32768 ∨ h = 2 ∧ 32768 ≤ a
set_option maxRecDepth 100000 in
set_option maxHeartbeats 4000000 in
theorem rbank_any (m : Mp) (a : Int) (w : World) (a0 : 0 ≤ a) (a1 : a ≤ 65535) (M : MpIn m) :
    Calls Try.prog 15 #[.agg #[.int .i64 m.kind, .bool m.op, .int .u8 m.low, .int .u8 m.high, .int .u8 m.ram, .bool m.mode], .int .u16 a] w fun e w' => e = .returned (.int .i64 (bankM m a)) ∧ Kept w w' := by
  obtain ⟨kind, op, low, high, ram, mode⟩ := m
  have l0 : 0 ≤ low := M.l0
  have l1 : low ≤ 255 := M.l1
  have h0 : 0 ≤ high := M.h0
  have h1 : high ≤ 255 := M.h1
  have wl : IntKind.i64.wrap low = low := by rw [IntKind.wrap_i64]; omega
  have wh : IntKind.i64.wrap high = high := by rw [IntKind.wrap_i64]; omega
  have w1 : IntKind.i64.wrap (32 * high) = 32 * high := by rw [IntKind.wrap_i64]; omega
  have w2 : IntKind.i64.wrap (32 * high + low) = 32 * high + low := by rw [IntKind.wrap_i64]; omega
  have w3 : IntKind.i64.wrap (32 * high + 1) = 32 * high + 1 := by rw [IntKind.wrap_i64]; omega
  have w4 : IntKind.i64.wrap (256 * high) = 256 * high := by rw [IntKind.wrap_i64]; omega
  have w5 : IntKind.i64.wrap (256 * high + low) = 256 * high + low := by rw [IntKind.wrap_i64]; omega
  clear M
  by_cases c3 : 32767 < a
  · have d3 : decide (32767 < a) = true := decide_eq_true c3
    have E := hid (show bankM ⟨kind, op, low, high, ram, mode⟩ a = 0 by unfold bankM; rw [if_neg (by omega), if_neg (by omega)])
    go_enter Try.func15, Try.ntmps15
    go_wp2
    go_ret
    exact ⟨by rw [E.out]; rfl, by repeat (first | with_reducible exact Kept.refl _ | with_reducible refine Kept.alloc ?_ _)⟩
  have d3 : decide (32767 < a) = false := decide_eq_false c3
  by_cases c2 : 16383 < a
  · have d2 : decide (16383 < a) = true := decide_eq_true c2
    have E := hid (show bankM ⟨kind, op, low, high, ram, mode⟩ a = bankHi ⟨kind, op, low, high, ram, mode⟩ by unfold bankM; rw [if_neg (by omega), if_pos (by omega)])
    by_cases hl : low = 0
    · subst hl
      rcases kinds_of kind with rfl | rfl | rfl | ⟨n1, n3, n5⟩
      all_goals (try (have b1 : (kind == 1) = false := by simpa using n1)); (try (have b3 : (kind == 3) = false := by simpa using n3)); (try (have b5 : (kind == 5) = false := by simpa using n5))
      all_goals
        go_enter Try.func15, Try.ntmps15
        go_wp2
        go_ret
        refine ⟨?_, by repeat (first | with_reducible exact Kept.refl _ | with_reducible refine Kept.alloc ?_ _)⟩
        rw [E.out]
        simp [bankHi, one, *]
    · have bl : (low == 0) = false := by simpa using hl
      rcases kinds_of kind with rfl | rfl | rfl | ⟨n1, n3, n5⟩
      all_goals (try (have b1 : (kind == 1) = false := by simpa using n1)); (try (have b3 : (kind == 3) = false := by simpa using n3)); (try (have b5 : (kind == 5) = false := by simpa using n5))
      all_goals
        go_enter Try.func15, Try.ntmps15
        go_wp2
        go_ret
        refine ⟨?_, by repeat (first | with_reducible exact Kept.refl _ | with_reducible refine Kept.alloc ?_ _)⟩
        rw [E.out]
        simp [bankHi, one, *]
  · have d2 : decide (16383 < a) = false := decide_eq_false c2
    have E := hid (show bankM ⟨kind, op, low, high, ram, mode⟩ a = bankLo ⟨kind, op, low, high, ram, mode⟩ by unfold bankM; rw [if_pos (by omega)])
    by_cases hl : low = 0
    · subst hl
      rcases kinds_of kind with rfl | rfl | rfl | ⟨n1, n3, n5⟩
      all_goals (try (have b1 : (kind == 1) = false := by simpa using n1)); (try (have b3 : (kind == 3) = false := by simpa using n3)); (try (have b5 : (kind == 5) = false := by simpa using n5))
      all_goals cases mode
      all_goals
        go_enter Try.func15, Try.ntmps15
        go_wp2
        go_ret
        refine ⟨?_, by repeat (first | with_reducible exact Kept.refl _ | with_reducible refine Kept.alloc ?_ _)⟩
        rw [E.out]
        simp [bankLo, *]
    · have bl : (low == 0) = false := by simpa using hl
      rcases kinds_of kind with rfl | rfl | rfl | ⟨n1, n3, n5⟩
      all_goals (try (have b1 : (kind == 1) = false := by simpa using n1)); (try (have b3 : (kind == 3) = false := by simpa using n3)); (try (have b5 : (kind == 5) = false := by simpa using n5))
      all_goals cases mode
      all_goals
        go_enter Try.func15, Try.ntmps15
        go_wp2
        go_ret
        refine ⟨?_, by repeat (first | with_reducible exact Kept.refl _ | with_reducible refine Kept.alloc ?_ _)⟩
        rw [E.out]
        simp [bankLo, *]
end Go.Proofs.Ytoehmmieceobeaa
