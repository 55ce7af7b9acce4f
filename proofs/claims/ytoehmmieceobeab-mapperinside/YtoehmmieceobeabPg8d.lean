/- What the six calls of the program's mapper come to. -/
import Derived.Test.YtoehmmieceobeabPg8c
import Derived.Test.YtoehmmieceobeabRmp8b
namespace Go.Proofs.Ytoehmmieceobeab
open Go.RowKit
set_option linter.unusedVariables false
set_option linter.unusedSimpArgs false

theorem pwr1_any (m : Mp) (a v : Int) (w : World) (a0 : 0 ≤ a) (a1 : a ≤ 65535) (v0 : 0 ≤ v) (v1 : v ≤ 255) :
    Calls Try.prog 32 #[mV m, .int .u16 a, .int .u8 v] w fun e w' => e = .returned (mV (write1 m v (zone a))) ∧ Kept w w' := by
  rcases zone_of a with ⟨z, ha⟩ | ⟨z, ha⟩ | ⟨z, ha⟩ | ⟨z, ha⟩ | ⟨z, ha⟩ | ⟨z, ha⟩
  · rw [z]; exact pwr10 m a v w a0 a1 v0 v1 ha
  · rw [z]; exact pwr11 m a v w a0 a1 v0 v1 ha
  · rw [z]; exact pwr12 m a v w a0 a1 v0 v1 ha
  · rw [z]; exact pwr13 m a v w a0 a1 v0 v1 ha
  · rw [z]; exact pwr14 m a v w a0 a1 v0 v1 ha
  · rw [z]; exact pwr15 m a v w a0 a1 v0 v1 ha
theorem pwr3_any (m : Mp) (a v : Int) (w : World) (a0 : 0 ≤ a) (a1 : a ≤ 65535) (v0 : 0 ≤ v) (v1 : v ≤ 255) :
    Calls Try.prog 40 #[mV m, .int .u16 a, .int .u8 v] w fun e w' => e = .returned (mV (write3 m v (zone a))) ∧ Kept w w' := by
  rcases zone_of a with ⟨z, ha⟩ | ⟨z, ha⟩ | ⟨z, ha⟩ | ⟨z, ha⟩ | ⟨z, ha⟩ | ⟨z, ha⟩
  · rw [z]; exact pwr30 m a v w a0 a1 v0 v1 ha
  · rw [z]; exact pwr31 m a v w a0 a1 v0 v1 ha
  · rw [z]; exact pwr32 m a v w a0 a1 v0 v1 ha
  · rw [z]; exact pwr33 m a v w a0 a1 v0 v1 ha
  · rw [z]; exact pwr34 m a v w a0 a1 v0 v1 ha
  · rw [z]; exact pwr35 m a v w a0 a1 v0 v1 ha
theorem pwr5_any (m : Mp) (a v : Int) (w : World) (a0 : 0 ≤ a) (a1 : a ≤ 65535) (v0 : 0 ≤ v) (v1 : v ≤ 255) :
    Calls Try.prog 45 #[mV m, .int .u16 a, .int .u8 v] w fun e w' => e = .returned (mV (write5 m v (zone a))) ∧ Kept w w' := by
  rcases zone_of a with ⟨z, ha⟩ | ⟨z, ha⟩ | ⟨z, ha⟩ | ⟨z, ha⟩ | ⟨z, ha⟩ | ⟨z, ha⟩
  · rw [z]; exact pwr50 m a v w a0 a1 v0 v1 ha
  · rw [z]; exact pwr51 m a v w a0 a1 v0 v1 ha
  · rw [z]; exact pwr52 m a v w a0 a1 v0 v1 ha
  · rw [z]; exact pwr53 m a v w a0 a1 v0 v1 ha
  · rw [z]; exact pwr54 m a v w a0 a1 v0 v1 ha
  · rw [z]; exact pwr55 m a v w a0 a1 v0 v1 ha
set_option maxRecDepth 100000 in
theorem mwrite_any (m : Mp) (a v : Int) (w : World) (a0 : 0 ≤ a) (a1 : a ≤ 65535) (v0 : 0 ≤ v) (v1 : v ≤ 255) (M : MpIn m) : Calls Try.prog 10 #[mpV m, .int .u16 a, .int .u8 v] w fun e w' => e = .returned (mpV (writeM m a v)) ∧ Kept w w' := by
  rcases kinds_of m.kind with h | h | h | ⟨n1, n3, n5⟩
  · have E : writeM m a v = write1 m v (zone a) := by unfold writeM writeZ; rw [if_pos h]
    rw [E]
    have C1 := hid (fun u => chipOf1_any m u h)
    have C2 := hid (fun u => pwr1_any m a v u a0 a1 v0 v1)
    clear E h
    generalize write1 m v (zone a) = R at *
    go_enter Try.func10, Try.ntmps10
    go_wp2_with fail
    refine (C1.out _).mono ?_
    rintro e u1 ⟨rfl, k1⟩
    obtain ⟨hA, fA⟩ := mine ((alloc1 w _ _).alloc _ _) k1 (has_alloc (w.alloc (.cells #[.int .i64 m.kind, .bool m.op, .int .u8 m.low, .int .u8 m.high, .int .u8 m.ram, .bool m.mode] 23)) #[.int .i64 0, .bool false, .int .u8 0, .int .u8 0, .int .u8 0, .bool false] 23) (by simp)
    have K1 := hid ((((Kept.refl w).alloc _).alloc _).trans k1)
    simp only [World.size_alloc] at hA fA
    have HA := hid hA
    have FA := hid fA
    clear k1 hA fA
    go_wp2_with fail
    refine (C2.out _).mono ?_
    rintro e u2 ⟨rfl, k2⟩
    have K2 := hid (K1.out.trans k2)
    have hA := hasK k2 HA.out
    have fA := frozK k2 HA.out.1 FA.out
    have b0 := hA.2 0
    have b1 := hA.2 1
    have b2 := hA.2 2
    have b3 := hA.2 3
    have b4 := hA.2 4
    have b5 := hA.2 5
    simp at b0 b1 b2 b3 b4 b5
    have zA := hA.1
    clear k2 hA
    go_wp2
    exact bodyPost_ret (v := mpV R) (by simp [results, Try.results10, go_sem, b0, b1, b2, b3, b4, b5, zA]) rfl ⟨rfl, by repeat (first | with_reducible exact K2.out | with_reducible refine Kept.drew ?_ | with_reducible refine Kept.alloc ?_ _ | with_reducible refine Kept.setCell8 ?_ (Nat.le_refl _) _ _ | with_reducible refine Kept.setCell8 ?_ (Nat.le_succ _) _ _)⟩
  · have E : writeM m a v = write3 m v (zone a) := by unfold writeM writeZ; rw [if_neg (by omega), if_pos h]
    rw [E]
    have C1 := hid (fun u => chipOf3_any m u h)
    have C2 := hid (fun u => pwr3_any m a v u a0 a1 v0 v1)
    clear E h
    generalize write3 m v (zone a) = R at *
    go_enter Try.func10, Try.ntmps10
    go_wp2_with fail
    refine (C1.out _).mono ?_
    rintro e u1 ⟨rfl, k1⟩
    obtain ⟨hA, fA⟩ := mine ((alloc1 w _ _).alloc _ _) k1 (has_alloc (w.alloc (.cells #[.int .i64 m.kind, .bool m.op, .int .u8 m.low, .int .u8 m.high, .int .u8 m.ram, .bool m.mode] 23)) #[.int .i64 0, .bool false, .int .u8 0, .int .u8 0, .int .u8 0, .bool false] 23) (by simp)
    have K1 := hid ((((Kept.refl w).alloc _).alloc _).trans k1)
    simp only [World.size_alloc] at hA fA
    have HA := hid hA
    have FA := hid fA
    clear k1 hA fA
    go_wp2_with fail
    refine (C2.out _).mono ?_
    rintro e u2 ⟨rfl, k2⟩
    have K2 := hid (K1.out.trans k2)
    have hA := hasK k2 HA.out
    have fA := frozK k2 HA.out.1 FA.out
    have b0 := hA.2 0
    have b1 := hA.2 1
    have b2 := hA.2 2
    have b3 := hA.2 3
    have b4 := hA.2 4
    have b5 := hA.2 5
    simp at b0 b1 b2 b3 b4 b5
    have zA := hA.1
    clear k2 hA
    go_wp2
    exact bodyPost_ret (v := mpV R) (by simp [results, Try.results10, go_sem, b0, b1, b2, b3, b4, b5, zA]) rfl ⟨rfl, by repeat (first | with_reducible exact K2.out | with_reducible refine Kept.drew ?_ | with_reducible refine Kept.alloc ?_ _ | with_reducible refine Kept.setCell8 ?_ (Nat.le_refl _) _ _ | with_reducible refine Kept.setCell8 ?_ (Nat.le_succ _) _ _)⟩
  · have E : writeM m a v = write5 m v (zone a) := by unfold writeM writeZ; rw [if_neg (by omega), if_neg (by omega), if_pos h]
    rw [E]
    have C1 := hid (fun u => chipOf5_any m u h)
    have C2 := hid (fun u => pwr5_any m a v u a0 a1 v0 v1)
    clear E h
    generalize write5 m v (zone a) = R at *
    go_enter Try.func10, Try.ntmps10
    go_wp2_with fail
    refine (C1.out _).mono ?_
    rintro e u1 ⟨rfl, k1⟩
    obtain ⟨hA, fA⟩ := mine ((alloc1 w _ _).alloc _ _) k1 (has_alloc (w.alloc (.cells #[.int .i64 m.kind, .bool m.op, .int .u8 m.low, .int .u8 m.high, .int .u8 m.ram, .bool m.mode] 23)) #[.int .i64 0, .bool false, .int .u8 0, .int .u8 0, .int .u8 0, .bool false] 23) (by simp)
    have K1 := hid ((((Kept.refl w).alloc _).alloc _).trans k1)
    simp only [World.size_alloc] at hA fA
    have HA := hid hA
    have FA := hid fA
    clear k1 hA fA
    go_wp2_with fail
    refine (C2.out _).mono ?_
    rintro e u2 ⟨rfl, k2⟩
    have K2 := hid (K1.out.trans k2)
    have hA := hasK k2 HA.out
    have fA := frozK k2 HA.out.1 FA.out
    have b0 := hA.2 0
    have b1 := hA.2 1
    have b2 := hA.2 2
    have b3 := hA.2 3
    have b4 := hA.2 4
    have b5 := hA.2 5
    simp at b0 b1 b2 b3 b4 b5
    have zA := hA.1
    clear k2 hA
    go_wp2
    exact bodyPost_ret (v := mpV R) (by simp [results, Try.results10, go_sem, b0, b1, b2, b3, b4, b5, zA]) rfl ⟨rfl, by repeat (first | with_reducible exact K2.out | with_reducible refine Kept.drew ?_ | with_reducible refine Kept.alloc ?_ _ | with_reducible refine Kept.setCell8 ?_ (Nat.le_refl _) _ _ | with_reducible refine Kept.setCell8 ?_ (Nat.le_succ _) _ _)⟩
  · have E : writeM m a v = m := by unfold writeM writeZ; rw [if_neg n1, if_neg n3, if_neg n5]
    rw [E]
    have C1 := hid (fun u => chipOf0_any m u n1 n3 n5)
    have C2 := hid (fun u => pwr0 m a v u)
    clear E n1 n3 n5
    skip
    go_enter Try.func10, Try.ntmps10
    go_wp2_with fail
    refine (C1.out _).mono ?_
    rintro e u1 ⟨rfl, k1⟩
    obtain ⟨hA, fA⟩ := mine ((alloc1 w _ _).alloc _ _) k1 (has_alloc (w.alloc (.cells #[.int .i64 m.kind, .bool m.op, .int .u8 m.low, .int .u8 m.high, .int .u8 m.ram, .bool m.mode] 23)) #[.int .i64 0, .bool false, .int .u8 0, .int .u8 0, .int .u8 0, .bool false] 23) (by simp)
    have K1 := hid ((((Kept.refl w).alloc _).alloc _).trans k1)
    simp only [World.size_alloc] at hA fA
    have HA := hid hA
    have FA := hid fA
    clear k1 hA fA
    go_wp2_with fail
    refine (C2.out _).mono ?_
    rintro e u2 ⟨rfl, k2⟩
    have K2 := hid (K1.out.trans k2)
    have hA := hasK k2 HA.out
    have fA := frozK k2 HA.out.1 FA.out
    have b0 := hA.2 0
    have b1 := hA.2 1
    have b2 := hA.2 2
    have b3 := hA.2 3
    have b4 := hA.2 4
    have b5 := hA.2 5
    simp at b0 b1 b2 b3 b4 b5
    have zA := hA.1
    clear k2 hA
    go_wp2
    exact bodyPost_ret (v := mpV m) (by simp [results, Try.results10, go_sem, b0, b1, b2, b3, b4, b5, zA]) rfl ⟨rfl, by repeat (first | with_reducible exact K2.out | with_reducible refine Kept.drew ?_ | with_reducible refine Kept.alloc ?_ _ | with_reducible refine Kept.setCell8 ?_ (Nat.le_refl _) _ _ | with_reducible refine Kept.setCell8 ?_ (Nat.le_succ _) _ _)⟩
end Go.Proofs.Ytoehmmieceobeab
