/- What the document's answers of layer 9 come to: Norm, Tick. What the document's answers of layer 9 come to: Read, Write, Run. What the document's answers of layer 8 come to: Write, kind 1. -/
import Derived.Test.YtfmddnekooojkaaGreatDoorG04
import Derived.Test.YtfmddnekooojkaaGreatDoorChecked
import Derived.Deep.QuietTactic
import Derived.BigQuiet
namespace Go.Proofs.YtfmddnekooojkaaGreatDoor
open Go.RowKit
set_option linter.unusedVariables false
set_option linter.unusedSimpArgs false

abbrev ckV (c : Ck) : Value := .agg #[.int .u8 c.sec, .int .u8 c.min, .int .u8 c.hour, .int .u16 c.day, .bool c.halt, .bool c.carry]
set_option maxRecDepth 100000 in
theorem rnorm_any (c : Ck) (w : World) (I : CkIn c) : Calls Tryz.prog 60 #[ckV c] w fun e w' => e = .returned (ckV (normC c)) ∧ Grown w w' := by
  obtain ⟨a, b, d, e, f, g, i, j⟩ := I
  have t1 : Int.tmod c.sec 64 = c.sec % 64 := Int.tmod_eq_emod_of_nonneg a
  have t2 : Int.tmod c.min 64 = c.min % 64 := Int.tmod_eq_emod_of_nonneg d
  have t3 : Int.tmod c.hour 32 = c.hour % 32 := Int.tmod_eq_emod_of_nonneg f
  have t4 : Int.tmod c.day 512 = c.day % 512 := Int.tmod_eq_emod_of_nonneg i
  have w1 : IntKind.u8.wrap (c.sec % 64) = c.sec % 64 := by rw [IntKind.wrap_u8]; omega
  have w2 : IntKind.u8.wrap (c.min % 64) = c.min % 64 := by rw [IntKind.wrap_u8]; omega
  have w3 : IntKind.u8.wrap (c.hour % 32) = c.hour % 32 := by rw [IntKind.wrap_u8]; omega
  have w4 : IntKind.u16.wrap (c.day % 512) = c.day % 512 := by rw [IntKind.wrap_u16]; omega
  go_enter Tryz.func60, Tryz.ntmps60
  go_wp2
  exact bodyPost_ret (v := .agg #[.int .u8 (c.sec % 64), .int .u8 (c.min % 64), .int .u8 (c.hour % 32), .int .u16 (c.day % 512), .bool c.halt, .bool c.carry]) (by simp [results, Tryz.results60, go_sem]) rfl ⟨rfl, by repeat (first | with_reducible exact Grown.refl _ | with_reducible refine Grown.alloc ?_ _ _)⟩
def onC (v last width : Int) : Int := if v = last then 0 else (v + 1) % width
theorem ron_any (v l k : Int) (w : World) (v0 : 0 ≤ v) (v1 : v ≤ 200) (k0 : 1 ≤ k) (k1 : k ≤ 255) : Calls Tryz.prog 65 #[.int .u8 v, .int .u8 l, .int .u8 k] w fun e w' => e = .returned (.int .u8 (onC v l k)) ∧ w' = w := by
  by_cases h : v = l
  · subst h
    have E := hid (show onC v v k = 0 by unfold onC; rw [if_pos rfl])
    go_enter Tryz.func65, Tryz.ntmps65
    go_wp2
    go_ret
    exact ⟨by rw [E.out]; rfl, rfl⟩
  · have b : (v == l) = false := by simpa using h
    have E := hid (show onC v l k = (v + 1) % k by unfold onC; rw [if_neg h])
    have w1 : IntKind.u8.wrap (v + 1) = v + 1 := by rw [IntKind.wrap_u8]; omega
    have t1 : Int.tmod (v + 1) k = (v + 1) % k := Int.tmod_eq_emod_of_nonneg (by omega)
    have q0 := Int.emod_nonneg (v + 1) (show k ≠ 0 by omega)
    have q1 := Int.emod_lt_of_pos (v + 1) (show 0 < k by omega)
    have w2 : IntKind.u8.wrap ((v + 1) % k) = (v + 1) % k := by rw [IntKind.wrap_u8]; omega
    have kz : ¬ (k = 0) := by omega
    have e1 : (v + 1) % 256 = v + 1 := by omega
    have e2 : (v + 1) % k % 256 = (v + 1) % k := by omega
    go_enter Tryz.func65, Tryz.ntmps65
    go_wp2
    go_ret
    exact ⟨by rw [E.out]; rfl, rfl⟩
set_option maxRecDepth 100000 in
set_option maxHeartbeats 4000000 in
theorem rtickH (c : Ck) (w : World) (I : CkIn c) (sec min hour day : Int) (halt carry : Bool) (N : normC c = ⟨sec, min, hour, day, halt, carry⟩) (O : CkOk ⟨sec, min, hour, day, halt, carry⟩) (hh : halt = true) : Calls Tryz.prog 38 #[ckV c] w fun e w' => e = .returned (ckV (tickN ⟨sec, min, hour, day, halt, carry⟩)) ∧ Grown w w' := by
  have CN := hid (fun u => rnorm_any c u I)
  rw [N] at CN
  clear N
  obtain ⟨a, b, d, e, f, g, i, j⟩ := O
  simp only at a b d e f g i j
  subst hh
  have E : Hid (tickN ⟨sec, min, hour, day, true, carry⟩ = ⟨sec, min, hour, day, true, carry⟩) := hid (by unfold tickN; simp)
  have wd : IntKind.u16.wrap (day + 1) = day + 1 := by rw [IntKind.wrap_u16]; omega
  have wd2 : (day + 1) % 65536 = day + 1 := by omega
  clear I
  go_enter Tryz.func38, Tryz.ntmps38
  go_wp2_with fail
  refine (CN.out _).mono ?_
  rintro e u1 ⟨rfl, g1⟩
  obtain ⟨hR, fR⟩ := mine ((alloc1 w _ _).alloc _ _) (Kept.of g1) (has_alloc (w.alloc (.cells #[.int .u8 c.sec, .int .u8 c.min, .int .u8 c.hour, .int .u16 c.day, .bool c.halt, .bool c.carry] 35)) #[.int .u8 0, .int .u8 0, .int .u8 0, .int .u16 0, .bool false, .bool false] 35) (by simp)
  simp only [World.size_alloc] at hR fR
  have G1 := hid (grown_trans ((alloc1 w _ _).alloc _ _) g1)
  obtain ⟨zR, cR⟩ := id hR
  have r0 := cR 0
  have r1 := cR 1
  have r2 := cR 2
  have r3 := cR 3
  have r4 := cR 4
  have r5 := cR 5
  simp at r0 r1 r2 r3 r4 r5
  have z1 : w.heap.size + 1 ≠ u1.heap.size := by omega
  have z2 : w.heap.size + 1 ≠ u1.heap.size + 1 := by omega
  have z3 : w.heap.size + 1 < u1.heap.size + 1 := by omega
  have z4 : w.heap.size + 1 < u1.heap.size + 1 + 1 := by omega
  clear g1 hR cR
  go_wp2
  exact bodyPost_ret (v := .agg #[.int .u8 (sec), .int .u8 (min), .int .u8 (hour), .int .u16 (day), .bool true, .bool carry]) (by simp [results, Tryz.results38, go_sem, r0, r1, r2, r3, r4, r5, zR, z1, z2, z3, z4]) rfl ⟨by rw [E.out], by repeat (first | with_reducible exact G1.out | with_reducible refine Grown.alloc ?_ _ _ | with_reducible refine Grown.setCell ?_ (Nat.le_succ _) _)⟩
set_option maxRecDepth 100000 in
set_option maxHeartbeats 4000000 in
theorem rtickS (c : Ck) (w : World) (I : CkIn c) (sec min hour day : Int) (halt carry : Bool) (N : normC c = ⟨sec, min, hour, day, halt, carry⟩) (O : CkOk ⟨sec, min, hour, day, halt, carry⟩) (hh : halt = false) (q1 : sec ≠ 59) : Calls Tryz.prog 38 #[ckV c] w fun e w' => e = .returned (ckV (tickN ⟨sec, min, hour, day, halt, carry⟩)) ∧ Grown w w' := by
  have CN := hid (fun u => rnorm_any c u I)
  rw [N] at CN
  clear N
  obtain ⟨a, b, d, e, f, g, i, j⟩ := O
  simp only at a b d e f g i j
  subst hh
  have E : Hid (tickN ⟨sec, min, hour, day, false, carry⟩ = ⟨(sec + 1) % 64, min, hour, day, false, carry⟩) := hid (by unfold tickN; simp [q1])
  have b1 : (sec == 59) = false := by simpa using q1
  have C1 := hid (fun u => ron_any sec 59 64 u a (by omega) (by decide) (by decide))
  rw [show onC sec 59 64 = (sec + 1) % 64 by unfold onC; rw [if_neg q1]] at C1
  have wd : IntKind.u16.wrap (day + 1) = day + 1 := by rw [IntKind.wrap_u16]; omega
  have wd2 : (day + 1) % 65536 = day + 1 := by omega
  clear I
  go_enter Tryz.func38, Tryz.ntmps38
  go_wp2_with fail
  refine (CN.out _).mono ?_
  rintro e u1 ⟨rfl, g1⟩
  obtain ⟨hR, fR⟩ := mine ((alloc1 w _ _).alloc _ _) (Kept.of g1) (has_alloc (w.alloc (.cells #[.int .u8 c.sec, .int .u8 c.min, .int .u8 c.hour, .int .u16 c.day, .bool c.halt, .bool c.carry] 35)) #[.int .u8 0, .int .u8 0, .int .u8 0, .int .u16 0, .bool false, .bool false] 35) (by simp)
  simp only [World.size_alloc] at hR fR
  have G1 := hid (grown_trans ((alloc1 w _ _).alloc _ _) g1)
  obtain ⟨zR, cR⟩ := id hR
  have r0 := cR 0
  have r1 := cR 1
  have r2 := cR 2
  have r3 := cR 3
  have r4 := cR 4
  have r5 := cR 5
  simp at r0 r1 r2 r3 r4 r5
  have z1 : w.heap.size + 1 ≠ u1.heap.size := by omega
  have z2 : w.heap.size + 1 ≠ u1.heap.size + 1 := by omega
  have z3 : w.heap.size + 1 < u1.heap.size + 1 := by omega
  have z4 : w.heap.size + 1 < u1.heap.size + 1 + 1 := by omega
  clear g1 hR cR
  go_wp2_with fail
  refine (C1.out _).mono ?_
  rintro e v0 ⟨rfl, rfl⟩
  go_wp2
  exact bodyPost_ret (v := .agg #[.int .u8 ((sec + 1) % 64), .int .u8 (min), .int .u8 (hour), .int .u16 (day), .bool false, .bool carry]) (by simp [results, Tryz.results38, go_sem, r0, r1, r2, r3, r4, r5, zR, z1, z2, z3, z4]) rfl ⟨by rw [E.out], by repeat (first | with_reducible exact G1.out | with_reducible refine Grown.alloc ?_ _ _ | with_reducible refine Grown.setCell ?_ (Nat.le_succ _) _)⟩
set_option maxRecDepth 100000 in
set_option maxHeartbeats 4000000 in
theorem rtickM (c : Ck) (w : World) (I : CkIn c) (sec min hour day : Int) (halt carry : Bool) (N : normC c = ⟨sec, min, hour, day, halt, carry⟩) (O : CkOk ⟨sec, min, hour, day, halt, carry⟩) (hh : halt = false) (q1 : sec = 59) (q2 : min ≠ 59) : Calls Tryz.prog 38 #[ckV c] w fun e w' => e = .returned (ckV (tickN ⟨sec, min, hour, day, halt, carry⟩)) ∧ Grown w w' := by
  have CN := hid (fun u => rnorm_any c u I)
  rw [N] at CN
  clear N
  obtain ⟨a, b, d, e, f, g, i, j⟩ := O
  simp only at a b d e f g i j
  subst hh q1
  have E : Hid (tickN ⟨59, min, hour, day, false, carry⟩ = ⟨0, (min + 1) % 64, hour, day, false, carry⟩) := hid (by unfold tickN; simp [q2])
  have b2 : (min == 59) = false := by simpa using q2
  have C1 := hid (fun u => ron_any 59 59 64 u (by decide) (by omega) (by decide) (by decide))
  rw [show onC 59 59 64 = 0 by rfl] at C1
  have C2 := hid (fun u => ron_any min 59 64 u d (by omega) (by decide) (by decide))
  rw [show onC min 59 64 = (min + 1) % 64 by unfold onC; rw [if_neg q2]] at C2
  have wd : IntKind.u16.wrap (day + 1) = day + 1 := by rw [IntKind.wrap_u16]; omega
  have wd2 : (day + 1) % 65536 = day + 1 := by omega
  clear I
  go_enter Tryz.func38, Tryz.ntmps38
  go_wp2_with fail
  refine (CN.out _).mono ?_
  rintro e u1 ⟨rfl, g1⟩
  obtain ⟨hR, fR⟩ := mine ((alloc1 w _ _).alloc _ _) (Kept.of g1) (has_alloc (w.alloc (.cells #[.int .u8 c.sec, .int .u8 c.min, .int .u8 c.hour, .int .u16 c.day, .bool c.halt, .bool c.carry] 35)) #[.int .u8 0, .int .u8 0, .int .u8 0, .int .u16 0, .bool false, .bool false] 35) (by simp)
  simp only [World.size_alloc] at hR fR
  have G1 := hid (grown_trans ((alloc1 w _ _).alloc _ _) g1)
  obtain ⟨zR, cR⟩ := id hR
  have r0 := cR 0
  have r1 := cR 1
  have r2 := cR 2
  have r3 := cR 3
  have r4 := cR 4
  have r5 := cR 5
  simp at r0 r1 r2 r3 r4 r5
  have z1 : w.heap.size + 1 ≠ u1.heap.size := by omega
  have z2 : w.heap.size + 1 ≠ u1.heap.size + 1 := by omega
  have z3 : w.heap.size + 1 < u1.heap.size + 1 := by omega
  have z4 : w.heap.size + 1 < u1.heap.size + 1 + 1 := by omega
  clear g1 hR cR
  go_wp2_with fail
  refine (C1.out _).mono ?_
  rintro e v0 ⟨rfl, rfl⟩
  go_wp2_with fail
  refine (C2.out _).mono ?_
  rintro e v0 ⟨rfl, rfl⟩
  go_wp2
  exact bodyPost_ret (v := .agg #[.int .u8 (0), .int .u8 ((min + 1) % 64), .int .u8 (hour), .int .u16 (day), .bool false, .bool carry]) (by simp [results, Tryz.results38, go_sem, r0, r1, r2, r3, r4, r5, zR, z1, z2, z3, z4]) rfl ⟨by rw [E.out], by repeat (first | with_reducible exact G1.out | with_reducible refine Grown.alloc ?_ _ _ | with_reducible refine Grown.setCell ?_ (Nat.le_succ _) _)⟩
set_option maxRecDepth 100000 in
set_option maxHeartbeats 4000000 in
theorem rtickO (c : Ck) (w : World) (I : CkIn c) (sec min hour day : Int) (halt carry : Bool) (N : normC c = ⟨sec, min, hour, day, halt, carry⟩) (O : CkOk ⟨sec, min, hour, day, halt, carry⟩) (hh : halt = false) (q1 : sec = 59) (q2 : min = 59) (q3 : hour ≠ 23) : Calls Tryz.prog 38 #[ckV c] w fun e w' => e = .returned (ckV (tickN ⟨sec, min, hour, day, halt, carry⟩)) ∧ Grown w w' := by
  have CN := hid (fun u => rnorm_any c u I)
  rw [N] at CN
  clear N
  obtain ⟨a, b, d, e, f, g, i, j⟩ := O
  simp only at a b d e f g i j
  subst hh q1 q2
  have E : Hid (tickN ⟨59, 59, hour, day, false, carry⟩ = ⟨0, 0, (hour + 1) % 32, day, false, carry⟩) := hid (by unfold tickN; simp [q3])
  have b3 : (hour == 23) = false := by simpa using q3
  have C1 := hid (fun u => ron_any 59 59 64 u (by decide) (by omega) (by decide) (by decide))
  rw [show onC 59 59 64 = 0 by rfl] at C1
  have C2 := hid (fun u => ron_any 59 59 64 u (by decide) (by omega) (by decide) (by decide))
  rw [show onC 59 59 64 = 0 by rfl] at C2
  have C3 := hid (fun u => ron_any hour 23 32 u f (by omega) (by decide) (by decide))
  rw [show onC hour 23 32 = (hour + 1) % 32 by unfold onC; rw [if_neg q3]] at C3
  have wd : IntKind.u16.wrap (day + 1) = day + 1 := by rw [IntKind.wrap_u16]; omega
  have wd2 : (day + 1) % 65536 = day + 1 := by omega
  clear I
  go_enter Tryz.func38, Tryz.ntmps38
  go_wp2_with fail
  refine (CN.out _).mono ?_
  rintro e u1 ⟨rfl, g1⟩
  obtain ⟨hR, fR⟩ := mine ((alloc1 w _ _).alloc _ _) (Kept.of g1) (has_alloc (w.alloc (.cells #[.int .u8 c.sec, .int .u8 c.min, .int .u8 c.hour, .int .u16 c.day, .bool c.halt, .bool c.carry] 35)) #[.int .u8 0, .int .u8 0, .int .u8 0, .int .u16 0, .bool false, .bool false] 35) (by simp)
  simp only [World.size_alloc] at hR fR
  have G1 := hid (grown_trans ((alloc1 w _ _).alloc _ _) g1)
  obtain ⟨zR, cR⟩ := id hR
  have r0 := cR 0
  have r1 := cR 1
  have r2 := cR 2
  have r3 := cR 3
  have r4 := cR 4
  have r5 := cR 5
  simp at r0 r1 r2 r3 r4 r5
  have z1 : w.heap.size + 1 ≠ u1.heap.size := by omega
  have z2 : w.heap.size + 1 ≠ u1.heap.size + 1 := by omega
  have z3 : w.heap.size + 1 < u1.heap.size + 1 := by omega
  have z4 : w.heap.size + 1 < u1.heap.size + 1 + 1 := by omega
  clear g1 hR cR
  go_wp2_with fail
  refine (C1.out _).mono ?_
  rintro e v0 ⟨rfl, rfl⟩
  go_wp2_with fail
  refine (C2.out _).mono ?_
  rintro e v0 ⟨rfl, rfl⟩
  go_wp2_with fail
  refine (C3.out _).mono ?_
  rintro e v0 ⟨rfl, rfl⟩
  go_wp2
  exact bodyPost_ret (v := .agg #[.int .u8 (0), .int .u8 (0), .int .u8 ((hour + 1) % 32), .int .u16 (day), .bool false, .bool carry]) (by simp [results, Tryz.results38, go_sem, r0, r1, r2, r3, r4, r5, zR, z1, z2, z3, z4]) rfl ⟨by rw [E.out], by repeat (first | with_reducible exact G1.out | with_reducible refine Grown.alloc ?_ _ _ | with_reducible refine Grown.setCell ?_ (Nat.le_succ _) _)⟩
set_option maxRecDepth 100000 in
set_option maxHeartbeats 4000000 in
theorem rtickD (c : Ck) (w : World) (I : CkIn c) (sec min hour day : Int) (halt carry : Bool) (N : normC c = ⟨sec, min, hour, day, halt, carry⟩) (O : CkOk ⟨sec, min, hour, day, halt, carry⟩) (hh : halt = false) (q1 : sec = 59) (q2 : min = 59) (q3 : hour = 23) (q4 : day ≠ 511) : Calls Tryz.prog 38 #[ckV c] w fun e w' => e = .returned (ckV (tickN ⟨sec, min, hour, day, halt, carry⟩)) ∧ Grown w w' := by
  have CN := hid (fun u => rnorm_any c u I)
  rw [N] at CN
  clear N
  obtain ⟨a, b, d, e, f, g, i, j⟩ := O
  simp only at a b d e f g i j
  subst hh q1 q2 q3
  have E : Hid (tickN ⟨59, 59, 23, day, false, carry⟩ = ⟨0, 0, 0, day + 1, false, carry⟩) := hid (by unfold tickN; simp [q4])
  have b4 : (day == 511) = false := by simpa using q4
  have C1 := hid (fun u => ron_any 59 59 64 u (by decide) (by omega) (by decide) (by decide))
  rw [show onC 59 59 64 = 0 by rfl] at C1
  have C2 := hid (fun u => ron_any 59 59 64 u (by decide) (by omega) (by decide) (by decide))
  rw [show onC 59 59 64 = 0 by rfl] at C2
  have C3 := hid (fun u => ron_any 23 23 32 u (by decide) (by omega) (by decide) (by decide))
  rw [show onC 23 23 32 = 0 by rfl] at C3
  have wd : IntKind.u16.wrap (day + 1) = day + 1 := by rw [IntKind.wrap_u16]; omega
  have wd2 : (day + 1) % 65536 = day + 1 := by omega
  clear I
  go_enter Tryz.func38, Tryz.ntmps38
  go_wp2_with fail
  refine (CN.out _).mono ?_
  rintro e u1 ⟨rfl, g1⟩
  obtain ⟨hR, fR⟩ := mine ((alloc1 w _ _).alloc _ _) (Kept.of g1) (has_alloc (w.alloc (.cells #[.int .u8 c.sec, .int .u8 c.min, .int .u8 c.hour, .int .u16 c.day, .bool c.halt, .bool c.carry] 35)) #[.int .u8 0, .int .u8 0, .int .u8 0, .int .u16 0, .bool false, .bool false] 35) (by simp)
  simp only [World.size_alloc] at hR fR
  have G1 := hid (grown_trans ((alloc1 w _ _).alloc _ _) g1)
  obtain ⟨zR, cR⟩ := id hR
  have r0 := cR 0
  have r1 := cR 1
  have r2 := cR 2
  have r3 := cR 3
  have r4 := cR 4
  have r5 := cR 5
  simp at r0 r1 r2 r3 r4 r5
  have z1 : w.heap.size + 1 ≠ u1.heap.size := by omega
  have z2 : w.heap.size + 1 ≠ u1.heap.size + 1 := by omega
  have z3 : w.heap.size + 1 < u1.heap.size + 1 := by omega
  have z4 : w.heap.size + 1 < u1.heap.size + 1 + 1 := by omega
  clear g1 hR cR
  go_wp2_with fail
  refine (C1.out _).mono ?_
  rintro e v0 ⟨rfl, rfl⟩
  go_wp2_with fail
  refine (C2.out _).mono ?_
  rintro e v0 ⟨rfl, rfl⟩
  go_wp2_with fail
  refine (C3.out _).mono ?_
  rintro e v0 ⟨rfl, rfl⟩
  go_wp2
  exact bodyPost_ret (v := .agg #[.int .u8 (0), .int .u8 (0), .int .u8 (0), .int .u16 (day + 1), .bool false, .bool carry]) (by simp [results, Tryz.results38, go_sem, r0, r1, r2, r3, r4, r5, zR, z1, z2, z3, z4]) rfl ⟨by rw [E.out], by repeat (first | with_reducible exact G1.out | with_reducible refine Grown.alloc ?_ _ _ | with_reducible refine Grown.setCell ?_ (Nat.le_succ _) _)⟩
set_option maxRecDepth 100000 in
set_option maxHeartbeats 4000000 in
theorem rtickC (c : Ck) (w : World) (I : CkIn c) (sec min hour day : Int) (halt carry : Bool) (N : normC c = ⟨sec, min, hour, day, halt, carry⟩) (O : CkOk ⟨sec, min, hour, day, halt, carry⟩) (hh : halt = false) (q1 : sec = 59) (q2 : min = 59) (q3 : hour = 23) (q4 : day = 511) : Calls Tryz.prog 38 #[ckV c] w fun e w' => e = .returned (ckV (tickN ⟨sec, min, hour, day, halt, carry⟩)) ∧ Grown w w' := by
  have CN := hid (fun u => rnorm_any c u I)
  rw [N] at CN
  clear N
  obtain ⟨a, b, d, e, f, g, i, j⟩ := O
  simp only at a b d e f g i j
  subst hh q1 q2 q3 q4
  have E : Hid (tickN ⟨59, 59, 23, 511, false, carry⟩ = ⟨0, 0, 0, 0, false, true⟩) := hid (by unfold tickN; simp)
  have C1 := hid (fun u => ron_any 59 59 64 u (by decide) (by omega) (by decide) (by decide))
  rw [show onC 59 59 64 = 0 by rfl] at C1
  have C2 := hid (fun u => ron_any 59 59 64 u (by decide) (by omega) (by decide) (by decide))
  rw [show onC 59 59 64 = 0 by rfl] at C2
  have C3 := hid (fun u => ron_any 23 23 32 u (by decide) (by omega) (by decide) (by decide))
  rw [show onC 23 23 32 = 0 by rfl] at C3
  clear I
  go_enter Tryz.func38, Tryz.ntmps38
  go_wp2_with fail
  refine (CN.out _).mono ?_
  rintro e u1 ⟨rfl, g1⟩
  obtain ⟨hR, fR⟩ := mine ((alloc1 w _ _).alloc _ _) (Kept.of g1) (has_alloc (w.alloc (.cells #[.int .u8 c.sec, .int .u8 c.min, .int .u8 c.hour, .int .u16 c.day, .bool c.halt, .bool c.carry] 35)) #[.int .u8 0, .int .u8 0, .int .u8 0, .int .u16 0, .bool false, .bool false] 35) (by simp)
  simp only [World.size_alloc] at hR fR
  have G1 := hid (grown_trans ((alloc1 w _ _).alloc _ _) g1)
  obtain ⟨zR, cR⟩ := id hR
  have r0 := cR 0
  have r1 := cR 1
  have r2 := cR 2
  have r3 := cR 3
  have r4 := cR 4
  have r5 := cR 5
  simp at r0 r1 r2 r3 r4 r5
  have z1 : w.heap.size + 1 ≠ u1.heap.size := by omega
  have z2 : w.heap.size + 1 ≠ u1.heap.size + 1 := by omega
  have z3 : w.heap.size + 1 < u1.heap.size + 1 := by omega
  have z4 : w.heap.size + 1 < u1.heap.size + 1 + 1 := by omega
  clear g1 hR cR
  go_wp2_with fail
  refine (C1.out _).mono ?_
  rintro e v0 ⟨rfl, rfl⟩
  go_wp2_with fail
  refine (C2.out _).mono ?_
  rintro e v0 ⟨rfl, rfl⟩
  go_wp2_with fail
  refine (C3.out _).mono ?_
  rintro e v0 ⟨rfl, rfl⟩
  go_wp2
  exact bodyPost_ret (v := .agg #[.int .u8 (0), .int .u8 (0), .int .u8 (0), .int .u16 (0), .bool false, .bool true]) (by simp [results, Tryz.results38, go_sem, r0, r1, r2, r3, r4, r5, zR, z1, z2, z3, z4]) rfl ⟨by rw [E.out], by repeat (first | with_reducible exact G1.out | with_reducible refine Grown.alloc ?_ _ _ | with_reducible refine Grown.setCell ?_ (Nat.le_succ _) _)⟩
theorem rtick_any (c : Ck) (w : World) (I : CkIn c) : Calls Tryz.prog 38 #[ckV c] w fun e w' => e = .returned (ckV (tickC c)) ∧ Grown w w' := by
  have O := norm_ok I
  unfold tickC
  obtain ⟨N, hN⟩ : ∃ v, normC c = v := ⟨_, rfl⟩
  rw [hN] at O ⊢
  obtain ⟨sec, min, hour, day, halt, carry⟩ := N
  cases halt
  · by_cases q1 : sec = 59
    · by_cases q2 : min = 59
      · by_cases q3 : hour = 23
        · by_cases q4 : day = 511
          · exact rtickC c w I _ _ _ _ _ _ hN O rfl q1 q2 q3 q4
          · exact rtickD c w I _ _ _ _ _ _ hN O rfl q1 q2 q3 q4
        · exact rtickO c w I _ _ _ _ _ _ hN O rfl q1 q2 q3
      · exact rtickM c w I _ _ _ _ _ _ hN O rfl q1 q2
    · exact rtickS c w I _ _ _ _ _ _ hN O rfl q1
  · exact rtickH c w I _ _ _ _ _ _ hN O rfl
end Go.Proofs.YtfmddnekooojkaaGreatDoor
namespace Go.Proofs.YtfmddnekooojkaaGreatDoor
open Go.RowKit
set_option linter.unusedVariables false
set_option linter.unusedSimpArgs false

theorem regs_of (r : Int) : r = 8 ∨ r = 9 ∨ r = 10 ∨ r = 11 ∨ r = 12 ∨ (r ≠ 8 ∧ r ≠ 9 ∧ r ≠ 10 ∧ r ≠ 11 ∧ r ≠ 12) := by omega
theorem readC_no (c : Ck) (r : Int) (h : r ≠ 8 ∧ r ≠ 9 ∧ r ≠ 10 ∧ r ≠ 11 ∧ r ≠ 12) : readC c r = 0 ∧ regE r = 7 := by
  obtain ⟨h1, h2, h3, h4, h5⟩ := h
  refine ⟨by unfold readC readV; rw [if_neg h1, if_neg h2, if_neg h3, if_neg h4, if_neg h5], ?_⟩
  unfold regE regOk
  simp [h1, h2, h3, h4, h5]
theorem writeC_no (c : Ck) (r v : Int) (h : r ≠ 8 ∧ r ≠ 9 ∧ r ≠ 10 ∧ r ≠ 11 ∧ r ≠ 12) : writeC c r v = ck0 := by
  obtain ⟨h1, h2, h3, h4, h5⟩ := h
  unfold writeC writeN; rw [if_neg h1, if_neg h2, if_neg h3, if_neg h4, if_neg h5]
set_option maxRecDepth 100000 in
set_option maxHeartbeats 4000000 in
theorem rread_any (c : Ck) (r : Int) (w : World) (I : CkIn c) : Calls Tryz.prog 31 #[ckV c, .int .i64 r] w fun e w' => e = .returned (.tuple #[.int .u8 (readC c r), .int .i64 (regE r)]) ∧ Grown w w' := by
  have CN := hid (fun u => rnorm_any c u I)
  have O := norm_ok I
  have NO := hid (readC_no c r)
  unfold readC at *
  obtain ⟨N, hN⟩ : ∃ v, normC c = v := ⟨_, rfl⟩
  rw [hN] at O CN NO ⊢
  clear hN I
  obtain ⟨sec, min, hour, day, halt, carry⟩ := N
  obtain ⟨a, b, d, e, f, g, i, j⟩ := O
  simp only at a b d e f g i j
  have t1 : Int.tmod day 256 = day % 256 := Int.tmod_eq_emod_of_nonneg i
  have t2 : Int.tdiv day 256 = day / 256 := Int.tdiv_eq_ediv_of_nonneg i
  have w1 : IntKind.u16.wrap (day % 256) = day % 256 := by rw [IntKind.wrap_u16]; omega
  have w2 : IntKind.u8.wrap (day % 256) = day % 256 := by rw [IntKind.wrap_u8]; omega
  have w3 : IntKind.u16.wrap (day / 256) = day / 256 := by rw [IntKind.wrap_u16]; omega
  have w4 : IntKind.u8.wrap (day / 256) = day / 256 := by rw [IntKind.wrap_u8]; omega
  have x1 : (day / 256 + 64) % 256 = day / 256 + 64 := by omega
  have x2 : (day / 256 + 128) % 256 = day / 256 + 128 := by omega
  have x3 : (day / 256 + 64 + 128) % 256 = day / 256 + 64 + 128 := by omega
  have y1 : IntKind.u8.wrap (day / 256 + 64) = day / 256 + 64 := by rw [IntKind.wrap_u8]; omega
  have y2 : IntKind.u8.wrap (day / 256 + 128) = day / 256 + 128 := by rw [IntKind.wrap_u8]; omega
  have y3 : IntKind.u8.wrap (day / 256 + 64 + 128) = day / 256 + 64 + 128 := by rw [IntKind.wrap_u8]; omega
  rcases regs_of r with rfl | rfl | rfl | rfl | rfl | hr
  · have E := hid (show readV ⟨sec, min, hour, day, halt, carry⟩ 8 = sec ∧ regE 8 = 0 from ⟨rfl, rfl⟩)
    go_enter Tryz.func31, Tryz.ntmps31
    go_wp2_with fail
    refine (CN.out _).mono ?_
    rintro e u1 ⟨rfl, g1⟩
    have G1 := hid (grown_trans (alloc1 w _ _) g1)
    clear g1
    go_wp2
    go_ret2
    exact ⟨by rw [E.out.1, E.out.2]; rfl, G1.out.alloc _ _⟩
  · have E := hid (show readV ⟨sec, min, hour, day, halt, carry⟩ 9 = min ∧ regE 9 = 0 from ⟨rfl, rfl⟩)
    go_enter Tryz.func31, Tryz.ntmps31
    go_wp2_with fail
    refine (CN.out _).mono ?_
    rintro e u1 ⟨rfl, g1⟩
    have G1 := hid (grown_trans (alloc1 w _ _) g1)
    clear g1
    go_wp2
    go_ret2
    exact ⟨by rw [E.out.1, E.out.2]; rfl, G1.out.alloc _ _⟩
  · have E := hid (show readV ⟨sec, min, hour, day, halt, carry⟩ 10 = hour ∧ regE 10 = 0 from ⟨rfl, rfl⟩)
    go_enter Tryz.func31, Tryz.ntmps31
    go_wp2_with fail
    refine (CN.out _).mono ?_
    rintro e u1 ⟨rfl, g1⟩
    have G1 := hid (grown_trans (alloc1 w _ _) g1)
    clear g1
    go_wp2
    go_ret2
    exact ⟨by rw [E.out.1, E.out.2]; rfl, G1.out.alloc _ _⟩
  · have E := hid (show readV ⟨sec, min, hour, day, halt, carry⟩ 11 = day % 256 ∧ regE 11 = 0 from ⟨rfl, rfl⟩)
    go_enter Tryz.func31, Tryz.ntmps31
    go_wp2_with fail
    refine (CN.out _).mono ?_
    rintro e u1 ⟨rfl, g1⟩
    have G1 := hid (grown_trans (alloc1 w _ _) g1)
    clear g1
    go_wp2
    go_ret2
    exact ⟨by rw [E.out.1, E.out.2]; rfl, G1.out.alloc _ _⟩
  · have E2 : regE 12 = 0 := rfl
    rw [E2]
    cases halt <;> cases carry
    · have E := hid (show readV ⟨sec, min, hour, day, false, false⟩ 12 = day / 256 by show day / 256 + 0 + 0 = _; omega)
      go_enter Tryz.func31, Tryz.ntmps31
      go_wp2_with fail
      refine (CN.out _).mono ?_
      rintro e u1 ⟨rfl, g1⟩
      have G1 := hid (grown_trans (alloc1 w _ _) g1)
      clear g1
      go_wp2
      go_ret2
      exact ⟨by rw [E.out]; rfl, G1.out.alloc _ _⟩
    · have E := hid (show readV ⟨sec, min, hour, day, false, true⟩ 12 = day / 256 + 128 by show day / 256 + 0 + 128 = _; omega)
      go_enter Tryz.func31, Tryz.ntmps31
      go_wp2_with fail
      refine (CN.out _).mono ?_
      rintro e u1 ⟨rfl, g1⟩
      have G1 := hid (grown_trans (alloc1 w _ _) g1)
      clear g1
      go_wp2
      go_ret2
      exact ⟨by rw [E.out]; rfl, G1.out.alloc _ _⟩
    · have E := hid (show readV ⟨sec, min, hour, day, true, false⟩ 12 = day / 256 + 64 by show day / 256 + 64 + 0 = _; omega)
      go_enter Tryz.func31, Tryz.ntmps31
      go_wp2_with fail
      refine (CN.out _).mono ?_
      rintro e u1 ⟨rfl, g1⟩
      have G1 := hid (grown_trans (alloc1 w _ _) g1)
      clear g1
      go_wp2
      go_ret2
      exact ⟨by rw [E.out]; rfl, G1.out.alloc _ _⟩
    · have E := hid (show readV ⟨sec, min, hour, day, true, true⟩ 12 = day / 256 + 64 + 128 from rfl)
      go_enter Tryz.func31, Tryz.ntmps31
      go_wp2_with fail
      refine (CN.out _).mono ?_
      rintro e u1 ⟨rfl, g1⟩
      have G1 := hid (grown_trans (alloc1 w _ _) g1)
      clear g1
      go_wp2
      go_ret2
      exact ⟨by rw [E.out]; rfl, G1.out.alloc _ _⟩
  · obtain ⟨h1, h2, h3, h4, h5⟩ := id hr
    have b1 : (r == 8) = false := by simpa using h1
    have b2 : (r == 9) = false := by simpa using h2
    have b3 : (r == 10) = false := by simpa using h3
    have b4 : (r == 11) = false := by simpa using h4
    have b5 : (r == 12) = false := by simpa using h5
    have E := hid (NO.out hr)
    clear hr NO h1 h2 h3 h4 h5
    go_enter Tryz.func31, Tryz.ntmps31
    go_wp2_with fail
    refine (CN.out _).mono ?_
    rintro e u1 ⟨rfl, g1⟩
    have G1 := hid (grown_trans (alloc1 w _ _) g1)
    clear g1
    go_wp2
    go_ret2
    exact ⟨by rw [E.out.1, E.out.2]; rfl, G1.out.alloc _ _⟩
end Go.Proofs.YtfmddnekooojkaaGreatDoor
namespace Go.Proofs.YtfmddnekooojkaaGreatDoor
open Go.RowKit
set_option linter.unusedVariables false
set_option linter.unusedSimpArgs false

set_option maxRecDepth 100000 in
theorem rwr10 (m : Mp) (a v : Int) (w : World) (a0 : 0 ≤ a) (a1 : a ≤ 65535) (v0 : 0 ≤ v) (v1 : v ≤ 255) (ha : a < 8192) :
    Calls Tryz.prog 35 #[.agg #[.int .i64 1, .bool m.op, .int .u8 m.low, .int .u8 m.high, .int .u8 m.ram, .bool m.mode], .int .u16 a, .int .u8 v] w fun e w' => e = .returned (.agg #[.int .i64 1, .bool (v % 16 == 10), .int .u8 m.low, .int .u8 m.high, .int .u8 m.ram, .bool m.mode]) ∧ Kept w w' := by
  have f0 : (a < 8192) := by omega
  have g0 : ¬ (8192 ≤ a) := by omega
  have d0 : decide (a < 8192) = true := decide_eq_true f0
  have q0 : decide (8192 ≤ a) = false := decide_eq_false g0
  have f1 : (a < 12288) := by omega
  have g1 : ¬ (12288 ≤ a) := by omega
  have d1 : decide (a < 12288) = true := decide_eq_true f1
  have q1 : decide (12288 ≤ a) = false := decide_eq_false g1
  have f2 : (a < 16384) := by omega
  have g2 : ¬ (16384 ≤ a) := by omega
  have d2 : decide (a < 16384) = true := decide_eq_true f2
  have q2 : decide (16384 ≤ a) = false := decide_eq_false g2
  have f3 : (a < 24576) := by omega
  have g3 : ¬ (24576 ≤ a) := by omega
  have d3 : decide (a < 24576) = true := decide_eq_true f3
  have q3 : decide (24576 ≤ a) = false := decide_eq_false g3
  have f4 : (a < 32768) := by omega
  have g4 : ¬ (32768 ≤ a) := by omega
  have d4 : decide (a < 32768) = true := decide_eq_true f4
  have q4 : decide (32768 ≤ a) = false := decide_eq_false g4
  have wa : IntKind.i64.wrap a = a := by rw [IntKind.wrap_i64]; omega
  have wv : IntKind.i64.wrap v = v := by rw [IntKind.wrap_i64]; omega
  have t16 : Int.tmod v 16 = v % 16 := Int.tmod_eq_emod_of_nonneg v0
  have t32 : Int.tmod v 32 = v % 32 := Int.tmod_eq_emod_of_nonneg v0
  have t4 : Int.tmod v 4 = v % 4 := Int.tmod_eq_emod_of_nonneg v0
  have t2 : Int.tmod v 2 = v % 2 := Int.tmod_eq_emod_of_nonneg v0
  have t128 : Int.tmod v 128 = v % 128 := Int.tmod_eq_emod_of_nonneg v0
  have b16 : IntKind.u8.wrap (v % 16) = v % 16 := by rw [IntKind.wrap_u8]; omega
  have b32 : IntKind.u8.wrap (v % 32) = v % 32 := by rw [IntKind.wrap_u8]; omega
  have b4 : IntKind.u8.wrap (v % 4) = v % 4 := by rw [IntKind.wrap_u8]; omega
  have b2 : IntKind.u8.wrap (v % 2) = v % 2 := by rw [IntKind.wrap_u8]; omega
  have b128 : IntKind.u8.wrap (v % 128) = v % 128 := by rw [IntKind.wrap_u8]; omega
  go_enter Tryz.func35, Tryz.ntmps35
  go_wp2
  exact bodyPost_ret (v := .agg #[.int .i64 1, .bool (v % 16 == 10), .int .u8 m.low, .int .u8 m.high, .int .u8 m.ram, .bool m.mode]) (by simp [results, Tryz.results35, go_sem]) rfl ⟨rfl, by repeat (first | with_reducible exact Kept.refl _ | with_reducible refine Kept.alloc ?_ _)⟩
set_option maxRecDepth 100000 in
theorem rwr11 (m : Mp) (a v : Int) (w : World) (a0 : 0 ≤ a) (a1 : a ≤ 65535) (v0 : 0 ≤ v) (v1 : v ≤ 255) (ha : 8192 ≤ a ∧ a < 12288) :
    Calls Tryz.prog 35 #[.agg #[.int .i64 1, .bool m.op, .int .u8 m.low, .int .u8 m.high, .int .u8 m.ram, .bool m.mode], .int .u16 a, .int .u8 v] w fun e w' => e = .returned (.agg #[.int .i64 1, .bool m.op, .int .u8 (v % 32), .int .u8 m.high, .int .u8 m.ram, .bool m.mode]) ∧ Kept w w' := by
  have f0 : ¬ (a < 8192) := by omega
  have g0 : (8192 ≤ a) := by omega
  have d0 : decide (a < 8192) = false := decide_eq_false f0
  have q0 : decide (8192 ≤ a) = true := decide_eq_true g0
  have f1 : (a < 12288) := by omega
  have g1 : ¬ (12288 ≤ a) := by omega
  have d1 : decide (a < 12288) = true := decide_eq_true f1
  have q1 : decide (12288 ≤ a) = false := decide_eq_false g1
  have f2 : (a < 16384) := by omega
  have g2 : ¬ (16384 ≤ a) := by omega
  have d2 : decide (a < 16384) = true := decide_eq_true f2
  have q2 : decide (16384 ≤ a) = false := decide_eq_false g2
  have f3 : (a < 24576) := by omega
  have g3 : ¬ (24576 ≤ a) := by omega
  have d3 : decide (a < 24576) = true := decide_eq_true f3
  have q3 : decide (24576 ≤ a) = false := decide_eq_false g3
  have f4 : (a < 32768) := by omega
  have g4 : ¬ (32768 ≤ a) := by omega
  have d4 : decide (a < 32768) = true := decide_eq_true f4
  have q4 : decide (32768 ≤ a) = false := decide_eq_false g4
  have wa : IntKind.i64.wrap a = a := by rw [IntKind.wrap_i64]; omega
  have wv : IntKind.i64.wrap v = v := by rw [IntKind.wrap_i64]; omega
  have t16 : Int.tmod v 16 = v % 16 := Int.tmod_eq_emod_of_nonneg v0
  have t32 : Int.tmod v 32 = v % 32 := Int.tmod_eq_emod_of_nonneg v0
  have t4 : Int.tmod v 4 = v % 4 := Int.tmod_eq_emod_of_nonneg v0
  have t2 : Int.tmod v 2 = v % 2 := Int.tmod_eq_emod_of_nonneg v0
  have t128 : Int.tmod v 128 = v % 128 := Int.tmod_eq_emod_of_nonneg v0
  have b16 : IntKind.u8.wrap (v % 16) = v % 16 := by rw [IntKind.wrap_u8]; omega
  have b32 : IntKind.u8.wrap (v % 32) = v % 32 := by rw [IntKind.wrap_u8]; omega
  have b4 : IntKind.u8.wrap (v % 4) = v % 4 := by rw [IntKind.wrap_u8]; omega
  have b2 : IntKind.u8.wrap (v % 2) = v % 2 := by rw [IntKind.wrap_u8]; omega
  have b128 : IntKind.u8.wrap (v % 128) = v % 128 := by rw [IntKind.wrap_u8]; omega
  go_enter Tryz.func35, Tryz.ntmps35
  go_wp2
  exact bodyPost_ret (v := .agg #[.int .i64 1, .bool m.op, .int .u8 (v % 32), .int .u8 m.high, .int .u8 m.ram, .bool m.mode]) (by simp [results, Tryz.results35, go_sem]) rfl ⟨rfl, by repeat (first | with_reducible exact Kept.refl _ | with_reducible refine Kept.alloc ?_ _)⟩
set_option maxRecDepth 100000 in
theorem rwr12 (m : Mp) (a v : Int) (w : World) (a0 : 0 ≤ a) (a1 : a ≤ 65535) (v0 : 0 ≤ v) (v1 : v ≤ 255) (ha : 12288 ≤ a ∧ a < 16384) :
    Calls Tryz.prog 35 #[.agg #[.int .i64 1, .bool m.op, .int .u8 m.low, .int .u8 m.high, .int .u8 m.ram, .bool m.mode], .int .u16 a, .int .u8 v] w fun e w' => e = .returned (.agg #[.int .i64 1, .bool m.op, .int .u8 (v % 32), .int .u8 m.high, .int .u8 m.ram, .bool m.mode]) ∧ Kept w w' := by
  have f0 : ¬ (a < 8192) := by omega
  have g0 : (8192 ≤ a) := by omega
  have d0 : decide (a < 8192) = false := decide_eq_false f0
  have q0 : decide (8192 ≤ a) = true := decide_eq_true g0
  have f1 : ¬ (a < 12288) := by omega
  have g1 : (12288 ≤ a) := by omega
  have d1 : decide (a < 12288) = false := decide_eq_false f1
  have q1 : decide (12288 ≤ a) = true := decide_eq_true g1
  have f2 : (a < 16384) := by omega
  have g2 : ¬ (16384 ≤ a) := by omega
  have d2 : decide (a < 16384) = true := decide_eq_true f2
  have q2 : decide (16384 ≤ a) = false := decide_eq_false g2
  have f3 : (a < 24576) := by omega
  have g3 : ¬ (24576 ≤ a) := by omega
  have d3 : decide (a < 24576) = true := decide_eq_true f3
  have q3 : decide (24576 ≤ a) = false := decide_eq_false g3
  have f4 : (a < 32768) := by omega
  have g4 : ¬ (32768 ≤ a) := by omega
  have d4 : decide (a < 32768) = true := decide_eq_true f4
  have q4 : decide (32768 ≤ a) = false := decide_eq_false g4
  have wa : IntKind.i64.wrap a = a := by rw [IntKind.wrap_i64]; omega
  have wv : IntKind.i64.wrap v = v := by rw [IntKind.wrap_i64]; omega
  have t16 : Int.tmod v 16 = v % 16 := Int.tmod_eq_emod_of_nonneg v0
  have t32 : Int.tmod v 32 = v % 32 := Int.tmod_eq_emod_of_nonneg v0
  have t4 : Int.tmod v 4 = v % 4 := Int.tmod_eq_emod_of_nonneg v0
  have t2 : Int.tmod v 2 = v % 2 := Int.tmod_eq_emod_of_nonneg v0
  have t128 : Int.tmod v 128 = v % 128 := Int.tmod_eq_emod_of_nonneg v0
  have b16 : IntKind.u8.wrap (v % 16) = v % 16 := by rw [IntKind.wrap_u8]; omega
  have b32 : IntKind.u8.wrap (v % 32) = v % 32 := by rw [IntKind.wrap_u8]; omega
  have b4 : IntKind.u8.wrap (v % 4) = v % 4 := by rw [IntKind.wrap_u8]; omega
  have b2 : IntKind.u8.wrap (v % 2) = v % 2 := by rw [IntKind.wrap_u8]; omega
  have b128 : IntKind.u8.wrap (v % 128) = v % 128 := by rw [IntKind.wrap_u8]; omega
  go_enter Tryz.func35, Tryz.ntmps35
  go_wp2
  exact bodyPost_ret (v := .agg #[.int .i64 1, .bool m.op, .int .u8 (v % 32), .int .u8 m.high, .int .u8 m.ram, .bool m.mode]) (by simp [results, Tryz.results35, go_sem]) rfl ⟨rfl, by repeat (first | with_reducible exact Kept.refl _ | with_reducible refine Kept.alloc ?_ _)⟩
set_option maxRecDepth 100000 in
theorem rwr13 (m : Mp) (a v : Int) (w : World) (a0 : 0 ≤ a) (a1 : a ≤ 65535) (v0 : 0 ≤ v) (v1 : v ≤ 255) (ha : 16384 ≤ a ∧ a < 24576) :
    Calls Tryz.prog 35 #[.agg #[.int .i64 1, .bool m.op, .int .u8 m.low, .int .u8 m.high, .int .u8 m.ram, .bool m.mode], .int .u16 a, .int .u8 v] w fun e w' => e = .returned (.agg #[.int .i64 1, .bool m.op, .int .u8 m.low, .int .u8 (v % 4), .int .u8 m.ram, .bool m.mode]) ∧ Kept w w' := by
  have f0 : ¬ (a < 8192) := by omega
  have g0 : (8192 ≤ a) := by omega
  have d0 : decide (a < 8192) = false := decide_eq_false f0
  have q0 : decide (8192 ≤ a) = true := decide_eq_true g0
  have f1 : ¬ (a < 12288) := by omega
  have g1 : (12288 ≤ a) := by omega
  have d1 : decide (a < 12288) = false := decide_eq_false f1
  have q1 : decide (12288 ≤ a) = true := decide_eq_true g1
  have f2 : ¬ (a < 16384) := by omega
  have g2 : (16384 ≤ a) := by omega
  have d2 : decide (a < 16384) = false := decide_eq_false f2
  have q2 : decide (16384 ≤ a) = true := decide_eq_true g2
  have f3 : (a < 24576) := by omega
  have g3 : ¬ (24576 ≤ a) := by omega
  have d3 : decide (a < 24576) = true := decide_eq_true f3
  have q3 : decide (24576 ≤ a) = false := decide_eq_false g3
  have f4 : (a < 32768) := by omega
  have g4 : ¬ (32768 ≤ a) := by omega
  have d4 : decide (a < 32768) = true := decide_eq_true f4
  have q4 : decide (32768 ≤ a) = false := decide_eq_false g4
  have wa : IntKind.i64.wrap a = a := by rw [IntKind.wrap_i64]; omega
  have wv : IntKind.i64.wrap v = v := by rw [IntKind.wrap_i64]; omega
  have t16 : Int.tmod v 16 = v % 16 := Int.tmod_eq_emod_of_nonneg v0
  have t32 : Int.tmod v 32 = v % 32 := Int.tmod_eq_emod_of_nonneg v0
  have t4 : Int.tmod v 4 = v % 4 := Int.tmod_eq_emod_of_nonneg v0
  have t2 : Int.tmod v 2 = v % 2 := Int.tmod_eq_emod_of_nonneg v0
  have t128 : Int.tmod v 128 = v % 128 := Int.tmod_eq_emod_of_nonneg v0
  have b16 : IntKind.u8.wrap (v % 16) = v % 16 := by rw [IntKind.wrap_u8]; omega
  have b32 : IntKind.u8.wrap (v % 32) = v % 32 := by rw [IntKind.wrap_u8]; omega
  have b4 : IntKind.u8.wrap (v % 4) = v % 4 := by rw [IntKind.wrap_u8]; omega
  have b2 : IntKind.u8.wrap (v % 2) = v % 2 := by rw [IntKind.wrap_u8]; omega
  have b128 : IntKind.u8.wrap (v % 128) = v % 128 := by rw [IntKind.wrap_u8]; omega
  go_enter Tryz.func35, Tryz.ntmps35
  go_wp2
  exact bodyPost_ret (v := .agg #[.int .i64 1, .bool m.op, .int .u8 m.low, .int .u8 (v % 4), .int .u8 m.ram, .bool m.mode]) (by simp [results, Tryz.results35, go_sem]) rfl ⟨rfl, by repeat (first | with_reducible exact Kept.refl _ | with_reducible refine Kept.alloc ?_ _)⟩
set_option maxRecDepth 100000 in
theorem rwr14 (m : Mp) (a v : Int) (w : World) (a0 : 0 ≤ a) (a1 : a ≤ 65535) (v0 : 0 ≤ v) (v1 : v ≤ 255) (ha : 24576 ≤ a ∧ a < 32768) :
    Calls Tryz.prog 35 #[.agg #[.int .i64 1, .bool m.op, .int .u8 m.low, .int .u8 m.high, .int .u8 m.ram, .bool m.mode], .int .u16 a, .int .u8 v] w fun e w' => e = .returned (.agg #[.int .i64 1, .bool m.op, .int .u8 m.low, .int .u8 m.high, .int .u8 m.ram, .bool (v % 2 == 1)]) ∧ Kept w w' := by
  have f0 : ¬ (a < 8192) := by omega
  have g0 : (8192 ≤ a) := by omega
  have d0 : decide (a < 8192) = false := decide_eq_false f0
  have q0 : decide (8192 ≤ a) = true := decide_eq_true g0
  have f1 : ¬ (a < 12288) := by omega
  have g1 : (12288 ≤ a) := by omega
  have d1 : decide (a < 12288) = false := decide_eq_false f1
  have q1 : decide (12288 ≤ a) = true := decide_eq_true g1
  have f2 : ¬ (a < 16384) := by omega
  have g2 : (16384 ≤ a) := by omega
  have d2 : decide (a < 16384) = false := decide_eq_false f2
  have q2 : decide (16384 ≤ a) = true := decide_eq_true g2
  have f3 : ¬ (a < 24576) := by omega
  have g3 : (24576 ≤ a) := by omega
  have d3 : decide (a < 24576) = false := decide_eq_false f3
  have q3 : decide (24576 ≤ a) = true := decide_eq_true g3
  have f4 : (a < 32768) := by omega
  have g4 : ¬ (32768 ≤ a) := by omega
  have d4 : decide (a < 32768) = true := decide_eq_true f4
  have q4 : decide (32768 ≤ a) = false := decide_eq_false g4
  have wa : IntKind.i64.wrap a = a := by rw [IntKind.wrap_i64]; omega
  have wv : IntKind.i64.wrap v = v := by rw [IntKind.wrap_i64]; omega
  have t16 : Int.tmod v 16 = v % 16 := Int.tmod_eq_emod_of_nonneg v0
  have t32 : Int.tmod v 32 = v % 32 := Int.tmod_eq_emod_of_nonneg v0
  have t4 : Int.tmod v 4 = v % 4 := Int.tmod_eq_emod_of_nonneg v0
  have t2 : Int.tmod v 2 = v % 2 := Int.tmod_eq_emod_of_nonneg v0
  have t128 : Int.tmod v 128 = v % 128 := Int.tmod_eq_emod_of_nonneg v0
  have b16 : IntKind.u8.wrap (v % 16) = v % 16 := by rw [IntKind.wrap_u8]; omega
  have b32 : IntKind.u8.wrap (v % 32) = v % 32 := by rw [IntKind.wrap_u8]; omega
  have b4 : IntKind.u8.wrap (v % 4) = v % 4 := by rw [IntKind.wrap_u8]; omega
  have b2 : IntKind.u8.wrap (v % 2) = v % 2 := by rw [IntKind.wrap_u8]; omega
  have b128 : IntKind.u8.wrap (v % 128) = v % 128 := by rw [IntKind.wrap_u8]; omega
  go_enter Tryz.func35, Tryz.ntmps35
  go_wp2
  exact bodyPost_ret (v := .agg #[.int .i64 1, .bool m.op, .int .u8 m.low, .int .u8 m.high, .int .u8 m.ram, .bool (v % 2 == 1)]) (by simp [results, Tryz.results35, go_sem]) rfl ⟨rfl, by repeat (first | with_reducible exact Kept.refl _ | with_reducible refine Kept.alloc ?_ _)⟩
set_option maxRecDepth 100000 in
theorem rwr15 (m : Mp) (a v : Int) (w : World) (a0 : 0 ≤ a) (a1 : a ≤ 65535) (v0 : 0 ≤ v) (v1 : v ≤ 255) (ha : 32768 ≤ a) :
    Calls Tryz.prog 35 #[.agg #[.int .i64 1, .bool m.op, .int .u8 m.low, .int .u8 m.high, .int .u8 m.ram, .bool m.mode], .int .u16 a, .int .u8 v] w fun e w' => e = .returned (.agg #[.int .i64 1, .bool m.op, .int .u8 m.low, .int .u8 m.high, .int .u8 m.ram, .bool m.mode]) ∧ Kept w w' := by
  have f0 : ¬ (a < 8192) := by omega
  have g0 : (8192 ≤ a) := by omega
  have d0 : decide (a < 8192) = false := decide_eq_false f0
  have q0 : decide (8192 ≤ a) = true := decide_eq_true g0
  have f1 : ¬ (a < 12288) := by omega
  have g1 : (12288 ≤ a) := by omega
  have d1 : decide (a < 12288) = false := decide_eq_false f1
  have q1 : decide (12288 ≤ a) = true := decide_eq_true g1
  have f2 : ¬ (a < 16384) := by omega
  have g2 : (16384 ≤ a) := by omega
  have d2 : decide (a < 16384) = false := decide_eq_false f2
  have q2 : decide (16384 ≤ a) = true := decide_eq_true g2
  have f3 : ¬ (a < 24576) := by omega
  have g3 : (24576 ≤ a) := by omega
  have d3 : decide (a < 24576) = false := decide_eq_false f3
  have q3 : decide (24576 ≤ a) = true := decide_eq_true g3
  have f4 : ¬ (a < 32768) := by omega
  have g4 : (32768 ≤ a) := by omega
  have d4 : decide (a < 32768) = false := decide_eq_false f4
  have q4 : decide (32768 ≤ a) = true := decide_eq_true g4
  have wa : IntKind.i64.wrap a = a := by rw [IntKind.wrap_i64]; omega
  have wv : IntKind.i64.wrap v = v := by rw [IntKind.wrap_i64]; omega
  have t16 : Int.tmod v 16 = v % 16 := Int.tmod_eq_emod_of_nonneg v0
  have t32 : Int.tmod v 32 = v % 32 := Int.tmod_eq_emod_of_nonneg v0
  have t4 : Int.tmod v 4 = v % 4 := Int.tmod_eq_emod_of_nonneg v0
  have t2 : Int.tmod v 2 = v % 2 := Int.tmod_eq_emod_of_nonneg v0
  have t128 : Int.tmod v 128 = v % 128 := Int.tmod_eq_emod_of_nonneg v0
  have b16 : IntKind.u8.wrap (v % 16) = v % 16 := by rw [IntKind.wrap_u8]; omega
  have b32 : IntKind.u8.wrap (v % 32) = v % 32 := by rw [IntKind.wrap_u8]; omega
  have b4 : IntKind.u8.wrap (v % 4) = v % 4 := by rw [IntKind.wrap_u8]; omega
  have b2 : IntKind.u8.wrap (v % 2) = v % 2 := by rw [IntKind.wrap_u8]; omega
  have b128 : IntKind.u8.wrap (v % 128) = v % 128 := by rw [IntKind.wrap_u8]; omega
  go_enter Tryz.func35, Tryz.ntmps35
  go_wp2
  exact bodyPost_ret (v := .agg #[.int .i64 1, .bool m.op, .int .u8 m.low, .int .u8 m.high, .int .u8 m.ram, .bool m.mode]) (by simp [results, Tryz.results35, go_sem]) rfl ⟨rfl, by repeat (first | with_reducible exact Kept.refl _ | with_reducible refine Kept.alloc ?_ _)⟩
end Go.Proofs.YtfmddnekooojkaaGreatDoor
