/- What New, Bank, Rom, Ram and Reg of the program's mapper come to. -/
import Derived.Test.YtfmddnekooojkaaGreatDoorG18
namespace Go.Proofs.YtfmddnekooojkaaGreatDoor
open Go.RowKit
set_option linter.unusedVariables false
set_option linter.unusedSimpArgs false

set_option maxRecDepth 100000 in
theorem mnew_any (k : Int) (w : World) : Calls Tryz.prog 20 #[.int .i64 k] w fun e w' => e = .returned (.tuple #[mpV (newR k), .int .i64 (newE k)]) ∧ Kept w w' := by
  by_cases h : k = 0 ∨ k = 1 ∨ k = 3 ∨ k = 5
  · rcases h with rfl | rfl | rfl | rfl
    all_goals
      go_enter Tryz.func20, Tryz.ntmps20
      go_wp2
      exact bodyPost_ret (v := .tuple #[mpV (newM _), .int .i64 0]) (by simp [results, Tryz.results20, go_sem, newM]; try rfl) rfl ⟨rfl, by repeat (first | with_reducible exact Kept.refl _ | with_reducible refine Kept.alloc ?_ _ | with_reducible refine Kept.setCell8 ?_ (Nat.le_refl _) _ _)⟩
  · have b0 : (k == 0) = false := by simp; omega
    have b1 : (k == 1) = false := by simp; omega
    have b3 : (k == 3) = false := by simp; omega
    have b5 : (k == 5) = false := by simp; omega
    have E : newOk k = false := by unfold newOk; simp; omega
    have E1 := hid (show newR k = mp0 by unfold newR; rw [E]; rfl)
    have E2 := hid (show newE k = 4 by unfold newE; rw [E]; rfl)
    clear E h
    go_enter Tryz.func20, Tryz.ntmps20
    go_wp2
    exact bodyPost_ret (v := .tuple #[mpV mp0, .int .i64 4]) (by simp [results, Tryz.results20, go_sem, mp0]) rfl ⟨by rw [E1.out, E2.out], by repeat (first | with_reducible exact Kept.refl _ | with_reducible refine Kept.alloc ?_ _ | with_reducible refine Kept.setCell8 ?_ (Nat.le_refl _) _ _)⟩
set_option maxRecDepth 100000 in
set_option maxHeartbeats 4000000 in
theorem mbank_any (m : Mp) (a : Int) (w : World) (a0 : 0 ≤ a) (a1 : a ≤ 65535) (M : MpIn m) : Calls Tryz.prog 53 #[mpV m, .int .u16 a] w fun e w' => e = .returned (.int .i64 (bankM m a)) ∧ Kept w w' := by
  by_cases c1 : a < 16384
  · have E : bankM m a = bankLo m := by unfold bankM; rw [if_pos c1]
    have d1 : decide (a < 16384) = true := decide_eq_true c1
    rcases kinds_of m.kind with h | h | h | ⟨n1, n3, n5⟩
    · have E2 : bankLo m = if m.mode then 32 * m.high else 0 := by unfold bankLo; rw [if_pos h]
      rw [E, E2]
      clear E E2 c1
      have C1 := hid (fun u => chipOf1_any m u h)
      have C2 := hid (fun u => lowBank1_any m u M)
      clear h
      generalize (if m.mode then 32 * m.high else 0 : Int) = R at *
      go_enter Tryz.func53, Tryz.ntmps53
      go_wp2_with fail
      refine (C1.out _).mono ?_
      rintro e u1 ⟨rfl, k1⟩
      have K1 := hid (((Kept.refl w).alloc _).trans k1)
      clear k1
      go_wp2_with fail
      refine (C2.out _).mono ?_
      rintro e u2 ⟨rfl, k2⟩
      have K2 := hid (K1.out.trans k2)
      clear k2
      go_wp2
      go_ret
      exact ⟨rfl, K2.out⟩
    · have E2 : bankLo m = 0 := by unfold bankLo; rw [if_neg (by omega)]
      rw [E, E2]
      clear E E2 c1
      have C1 := hid (fun u => chipOf3_any m u h)
      have C2 := hid (fun u => lowBank3_any m u)
      clear h
      go_enter Tryz.func53, Tryz.ntmps53
      go_wp2_with fail
      refine (C1.out _).mono ?_
      rintro e u1 ⟨rfl, k1⟩
      have K1 := hid (((Kept.refl w).alloc _).trans k1)
      clear k1
      go_wp2_with fail
      refine (C2.out _).mono ?_
      rintro e u2 ⟨rfl, k2⟩
      have K2 := hid (K1.out.trans k2)
      clear k2
      go_wp2
      go_ret
      exact ⟨rfl, K2.out⟩
    · have E2 : bankLo m = 0 := by unfold bankLo; rw [if_neg (by omega)]
      rw [E, E2]
      clear E E2 c1
      have C1 := hid (fun u => chipOf5_any m u h)
      have C2 := hid (fun u => lowBank5_any m u)
      clear h
      go_enter Tryz.func53, Tryz.ntmps53
      go_wp2_with fail
      refine (C1.out _).mono ?_
      rintro e u1 ⟨rfl, k1⟩
      have K1 := hid (((Kept.refl w).alloc _).trans k1)
      clear k1
      go_wp2_with fail
      refine (C2.out _).mono ?_
      rintro e u2 ⟨rfl, k2⟩
      have K2 := hid (K1.out.trans k2)
      clear k2
      go_wp2
      go_ret
      exact ⟨rfl, K2.out⟩
    · have E2 : bankLo m = 0 := by unfold bankLo; rw [if_neg n1]
      rw [E, E2]
      clear E E2 c1
      have C1 := hid (fun u => chipOf0_any m u n1 n3 n5)
      have C2 := hid (fun u => lowBank0_any m u)
      clear n1 n3 n5
      go_enter Tryz.func53, Tryz.ntmps53
      go_wp2_with fail
      refine (C1.out _).mono ?_
      rintro e u1 ⟨rfl, k1⟩
      have K1 := hid (((Kept.refl w).alloc _).trans k1)
      clear k1
      go_wp2_with fail
      refine (C2.out _).mono ?_
      rintro e u2 ⟨rfl, k2⟩
      have K2 := hid (K1.out.trans k2)
      clear k2
      go_wp2
      go_ret
      exact ⟨rfl, K2.out⟩
  have d1 : decide (a < 16384) = false := decide_eq_false c1
  by_cases c2 : a < 32768
  · have E : bankM m a = bankHi m := by unfold bankM; rw [if_neg c1, if_pos c2]
    have d2 : decide (a < 32768) = true := decide_eq_true c2
    rcases kinds_of m.kind with h | h | h | ⟨n1, n3, n5⟩
    · have E2 : bankHi m = 32 * m.high + one m.low := by unfold bankHi; rw [if_pos h]
      rw [E, E2]
      clear E E2 c1 c2
      have C1 := hid (fun u => chipOf1_any m u h)
      have C2 := hid (fun u => highBank1_any m u M)
      clear h
      generalize (32 * m.high + one m.low : Int) = R at *
      go_enter Tryz.func53, Tryz.ntmps53
      go_wp2_with fail
      refine (C1.out _).mono ?_
      rintro e u1 ⟨rfl, k1⟩
      have K1 := hid (((Kept.refl w).alloc _).trans k1)
      clear k1
      go_wp2_with fail
      refine (C2.out _).mono ?_
      rintro e u2 ⟨rfl, k2⟩
      have K2 := hid (K1.out.trans k2)
      clear k2
      go_wp2
      go_ret
      exact ⟨rfl, K2.out⟩
    · have E2 : bankHi m = one m.low := by unfold bankHi; rw [if_neg (by omega), if_pos h]
      rw [E, E2]
      clear E E2 c1 c2
      have C1 := hid (fun u => chipOf3_any m u h)
      have C2 := hid (fun u => highBank3_any m u M)
      clear h
      generalize (one m.low : Int) = R at *
      go_enter Tryz.func53, Tryz.ntmps53
      go_wp2_with fail
      refine (C1.out _).mono ?_
      rintro e u1 ⟨rfl, k1⟩
      have K1 := hid (((Kept.refl w).alloc _).trans k1)
      clear k1
      go_wp2_with fail
      refine (C2.out _).mono ?_
      rintro e u2 ⟨rfl, k2⟩
      have K2 := hid (K1.out.trans k2)
      clear k2
      go_wp2
      go_ret
      exact ⟨rfl, K2.out⟩
    · have E2 : bankHi m = 256 * m.high + m.low := by unfold bankHi; rw [if_neg (by omega), if_neg (by omega), if_pos h]
      rw [E, E2]
      clear E E2 c1 c2
      have C1 := hid (fun u => chipOf5_any m u h)
      have C2 := hid (fun u => highBank5_any m u M)
      clear h
      generalize (256 * m.high + m.low : Int) = R at *
      go_enter Tryz.func53, Tryz.ntmps53
      go_wp2_with fail
      refine (C1.out _).mono ?_
      rintro e u1 ⟨rfl, k1⟩
      have K1 := hid (((Kept.refl w).alloc _).trans k1)
      clear k1
      go_wp2_with fail
      refine (C2.out _).mono ?_
      rintro e u2 ⟨rfl, k2⟩
      have K2 := hid (K1.out.trans k2)
      clear k2
      go_wp2
      go_ret
      exact ⟨rfl, K2.out⟩
    · have E2 : bankHi m = 1 := by unfold bankHi; rw [if_neg n1, if_neg n3, if_neg n5]
      rw [E, E2]
      clear E E2 c1 c2
      have C1 := hid (fun u => chipOf0_any m u n1 n3 n5)
      have C2 := hid (fun u => highBank0_any m u)
      clear n1 n3 n5
      go_enter Tryz.func53, Tryz.ntmps53
      go_wp2_with fail
      refine (C1.out _).mono ?_
      rintro e u1 ⟨rfl, k1⟩
      have K1 := hid (((Kept.refl w).alloc _).trans k1)
      clear k1
      go_wp2_with fail
      refine (C2.out _).mono ?_
      rintro e u2 ⟨rfl, k2⟩
      have K2 := hid (K1.out.trans k2)
      clear k2
      go_wp2
      go_ret
      exact ⟨rfl, K2.out⟩
  · have d2 : decide (a < 32768) = false := decide_eq_false c2
    have E : bankM m a = 0 := by unfold bankM; rw [if_neg c1, if_neg c2]
    rw [E]
    clear E c1 c2
    go_enter Tryz.func53, Tryz.ntmps53
    go_wp2
    go_ret
    exact ⟨rfl, by repeat (first | with_reducible exact Kept.refl _ | with_reducible refine Kept.alloc ?_ _ | with_reducible refine Kept.drew ?_ | with_reducible refine Kept.drewN ?_)⟩
set_option maxRecDepth 100000 in
set_option maxHeartbeats 4000000 in
theorem mrom_any (m : Mp) (a s : Int) (w : World) (a0 : 0 ≤ a) (a1 : a ≤ 65535) (s0 : -9223372036854775808 ≤ s) (s1 : s ≤ 9223372036854775807) (M : MpIn m) : Calls Tryz.prog 25 #[mpV m, .int .u16 a, .int .i64 s] w fun e w' => e = .returned (.int .i64 (romM m a s)) ∧ Kept w w' := by
  by_cases c : s < 1 ∨ 32767 < a
  · have E := hid (show romM m a s = -1 by unfold romM; rw [if_pos c])
    by_cases c1 : s < 1
    · have d1 : decide (s < 1) = true := decide_eq_true c1
      go_enter Tryz.func25, Tryz.ntmps25
      go_wp2
      go_ret
      exact ⟨by rw [E.out]; rfl, by repeat (first | with_reducible exact Kept.refl _ | with_reducible refine Kept.alloc ?_ _ | with_reducible refine Kept.drew ?_ | with_reducible refine Kept.drewN ?_)⟩
    · have d1 : decide (s < 1) = false := decide_eq_false c1
      have c2 : 32768 ≤ a := by omega
      have d2 : decide (32768 ≤ a) = true := decide_eq_true c2
      go_enter Tryz.func25, Tryz.ntmps25
      go_wp2
      go_ret
      exact ⟨by rw [E.out]; rfl, by repeat (first | with_reducible exact Kept.refl _ | with_reducible refine Kept.alloc ?_ _ | with_reducible refine Kept.drew ?_ | with_reducible refine Kept.drewN ?_)⟩
  · have c1 : ¬ s < 1 := by omega
    have c2 : ¬ 32768 ≤ a := by omega
    have d1 : decide (s < 1) = false := decide_eq_false c1
    have d2 : decide (32768 ≤ a) = false := decide_eq_false c2
    have E := hid (show romM m a s = (16384 * bankM m a + a % 16384) % s by unfold romM; rw [if_neg c])
    have C := hid (fun u => mbank_any m a u a0 a1 M)
    have B := bank_bd m a M
    have sz : ¬ (s = 0) := by omega
    generalize bankM m a = b at *
    have w1 : IntKind.i64.wrap (16384 * b) = 16384 * b := by rw [IntKind.wrap_i64]; omega
    have wa : IntKind.i64.wrap a = a := by rw [IntKind.wrap_i64]; omega
    have ta : Int.tmod a 16384 = a % 16384 := Int.tmod_eq_emod_of_nonneg a0
    have w2 : IntKind.i64.wrap (a % 16384) = a % 16384 := by rw [IntKind.wrap_i64]; omega
    have w3 : IntKind.i64.wrap (16384 * b + a % 16384) = 16384 * b + a % 16384 := by rw [IntKind.wrap_i64]; omega
    obtain ⟨t1, t2, t3⟩ := mod_bd (16384 * b + a % 16384) s (by omega) (by omega) (by omega)
    generalize (16384 * b + a % 16384) % s = R at *
    have w4 : IntKind.i64.wrap R = R := by rw [IntKind.wrap_i64]; omega
    go_enter Tryz.func25, Tryz.ntmps25
    go_wp2_with fail
    refine (C.out _).mono ?_
    rintro e u1 ⟨rfl, k1⟩
    have K1 := hid (((Kept.refl w).alloc _).trans k1)
    clear k1
    go_wp2
    go_ret
    exact ⟨by rw [E.out]; rfl, K1.out⟩
end Go.Proofs.YtfmddnekooojkaaGreatDoor
