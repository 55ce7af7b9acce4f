/- What the document's answers of layer 9 come to: Norm, Tick. -/
import Derived.Test.YtpnidlibgpbjgaaCk9
import Derived.Test.YtpnidlibgpbjgaaChecked
import Derived.Deep.QuietTactic
import Derived.BigQuiet
namespace Go.Proofs.Ytpnidlibgpbjgaa
open Go.RowKit
set_option linter.unusedVariables false
set_option linter.unusedSimpArgs false

abbrev ckV (c : Ck) : Value := .agg #[.int .u8 c.sec, .int .u8 c.min, .int .u8 c.hour, .int .u16 c.day, .bool c.halt, .bool c.carry]
set_option maxRecDepth 100000 in
theorem rnorm_any (c : Ck) (w : World) (I : CkIn c) : Calls Try.prog 13 #[ckV c] w fun e w' => e = .returned (ckV (normC c)) ∧ Grown w w' := by
  obtain ⟨a, b, d, e, f, g, i, j⟩ := I
  have t1 : Int.tmod c.sec 64 = c.sec % 64 := Int.tmod_eq_emod_of_nonneg a
  have t2 : Int.tmod c.min 64 = c.min % 64 := Int.tmod_eq_emod_of_nonneg d
  have t3 : Int.tmod c.hour 32 = c.hour % 32 := Int.tmod_eq_emod_of_nonneg f
  have t4 : Int.tmod c.day 512 = c.day % 512 := Int.tmod_eq_emod_of_nonneg i
  have w1 : IntKind.u8.wrap (c.sec % 64) = c.sec % 64 := by rw [IntKind.wrap_u8]; omega
  have w2 : IntKind.u8.wrap (c.min % 64) = c.min % 64 := by rw [IntKind.wrap_u8]; omega
  have w3 : IntKind.u8.wrap (c.hour % 32) = c.hour % 32 := by rw [IntKind.wrap_u8]; omega
  have w4 : IntKind.u16.wrap (c.day % 512) = c.day % 512 := by rw [IntKind.wrap_u16]; omega
  go_enter Try.func13, Try.ntmps13
  go_wp2
  exact bodyPost_ret (v := .agg #[.int .u8 (c.sec % 64), .int .u8 (c.min % 64), .int .u8 (c.hour % 32), .int .u16 (c.day % 512), .bool c.halt, .bool c.carry]) (by simp [results, Try.results13, go_sem]) rfl ⟨rfl, by repeat (first | with_reducible exact Grown.refl _ | with_reducible refine Grown.alloc ?_ _ _)⟩
def onC (v last width : Int) : Int := if v = last then 0 else (v + 1) % width
theorem ron_any (v l k : Int) (w : World) (v0 : 0 ≤ v) (v1 : v ≤ 200) (k0 : 1 ≤ k) (k1 : k ≤ 255) : Calls Try.prog 24 #[.int .u8 v, .int .u8 l, .int .u8 k] w fun e w' => e = .returned (.int .u8 (onC v l k)) ∧ w' = w := by
  by_cases h : v = l
  · subst h
    have E := hid (show onC v v k = 0 by unfold onC; rw [if_pos rfl])
    go_enter Try.func24, Try.ntmps24
    go_wp2
    go_ret
    exact ⟨by rw [E.out]; rfl, rfl⟩
  · have b : (v == l) = false := by simpa using h
    have E := hid (show onC v l k = (v + 1) % k by unfold onC; rw [if_neg h])
    have w1 : IntKind.u8.wrap (v + 1) = v + 1 := by rw [IntKind.wrap_u8]; omega
    have t1 : Int.tmod (v + 1) k = (v + 1) % k := Int.tmod_eq_emod_of_nonneg (by omega)
    have q0 := Int.emod_nonneg (v + 1) (show k ≠ 0 by omega)
    have q1 := Int.emod_lt_of_pos (v + 1) (show 0 < k by omega)
    have w2 : IntKind.u8.wrap ((v + 1) % k) = (v + 1) % k := by rw [IntKind.wrap_u8]; omega
    have kz : ¬ (k = 0) := by omega
    have e1 : (v + 1) % 256 = v + 1 := by omega
    have e2 : (v + 1) % k % 256 = (v + 1) % k := by omega
    go_enter Try.func24, Try.ntmps24
    go_wp2
    go_ret
    exact ⟨by rw [E.out]; rfl, rfl⟩
set_option maxRecDepth 100000 in
set_option maxHeartbeats 4000000 in
theorem rtickH (c : Ck) (w : World) (I : CkIn c) (sec min hour day : Int) (halt carry : Bool) (N : normC c = ⟨sec, min, hour, day, halt, carry⟩) (O : CkOk ⟨sec, min, hour, day, halt, carry⟩) (hh : halt = true) : Calls Try.prog 11 #[ckV c] w fun e w' => e = .returned (ckV (tickN ⟨sec, min, hour, day, halt, carry⟩)) ∧ Grown w w' := by
  have CN := hid (fun u => rnorm_any c u I)
  rw [N] at CN
  clear N
  obtain ⟨a, b, d, e, f, g, i, j⟩ := O
  simp only at a b d e f g i j
  subst hh
  have E : Hid (tickN ⟨sec, min, hour, day, true, carry⟩ = ⟨sec, min, hour, day, true, carry⟩) := hid (by unfold tickN; simp)
  have wd : IntKind.u16.wrap (day + 1) = day + 1 := by rw [IntKind.wrap_u16]; omega
  have wd2 : (day + 1) % 65536 = day + 1 := by omega
  clear I
  go_enter Try.func11, Try.ntmps11
  go_wp2_with fail
  refine (CN.out _).mono ?_
  rintro e u1 ⟨rfl, g1⟩
  obtain ⟨hR, fR⟩ := mine ((alloc1 w _ _).alloc _ _) (Kept.of g1) (has_alloc (w.alloc (.cells #[.int .u8 c.sec, .int .u8 c.min, .int .u8 c.hour, .int .u16 c.day, .bool c.halt, .bool c.carry] 24)) #[.int .u8 0, .int .u8 0, .int .u8 0, .int .u16 0, .bool false, .bool false] 24) (by simp)
  simp only [World.size_alloc] at hR fR
  have G1 := hid (grown_trans ((alloc1 w _ _).alloc _ _) g1)
  obtain ⟨zR, cR⟩ := id hR
  have r0 := cR 0
  have r1 := cR 1
  have r2 := cR 2
  have r3 := cR 3
  have r4 := cR 4
  have r5 := cR 5
  simp at r0 r1 r2 r3 r4 r5
  have z1 : w.heap.size + 1 ≠ u1.heap.size := by omega
  have z2 : w.heap.size + 1 ≠ u1.heap.size + 1 := by omega
  have z3 : w.heap.size + 1 < u1.heap.size + 1 := by omega
  have z4 : w.heap.size + 1 < u1.heap.size + 1 + 1 := by omega
  clear g1 hR cR
  go_wp2
  exact bodyPost_ret (v := .agg #[.int .u8 (sec), .int .u8 (min), .int .u8 (hour), .int .u16 (day), .bool true, .bool carry]) (by simp [results, Try.results11, go_sem, r0, r1, r2, r3, r4, r5, zR, z1, z2, z3, z4]) rfl ⟨by rw [E.out], by repeat (first | with_reducible exact G1.out | with_reducible refine Grown.alloc ?_ _ _ | with_reducible refine Grown.setCell ?_ (Nat.le_succ _) _)⟩
set_option maxRecDepth 100000 in
set_option maxHeartbeats 4000000 in
theorem rtickS (c : Ck) (w : World) (I : CkIn c) (sec min hour day : Int) (halt carry : Bool) (N : normC c = ⟨sec, min, hour, day, halt, carry⟩) (O : CkOk ⟨sec, min, hour, day, halt, carry⟩) (hh : halt = false) (q1 : sec ≠ 59) : Calls Try.prog 11 #[ckV c] w fun e w' => e = .returned (ckV (tickN ⟨sec, min, hour, day, halt, carry⟩)) ∧ Grown w w' := by
  have CN := hid (fun u => rnorm_any c u I)
  rw [N] at CN
  clear N
  obtain ⟨a, b, d, e, f, g, i, j⟩ := O
  simp only at a b d e f g i j
  subst hh
  have E : Hid (tickN ⟨sec, min, hour, day, false, carry⟩ = ⟨(sec + 1) % 64, min, hour, day, false, carry⟩) := hid (by unfold tickN; simp [q1])
  have b1 : (sec == 59) = false := by simpa using q1
  have C1 := hid (fun u => ron_any sec 59 64 u a (by omega) (by decide) (by decide))
  rw [show onC sec 59 64 = (sec + 1) % 64 by unfold onC; rw [if_neg q1]] at C1
  have wd : IntKind.u16.wrap (day + 1) = day + 1 := by rw [IntKind.wrap_u16]; omega
  have wd2 : (day + 1) % 65536 = day + 1 := by omega
  clear I
  go_enter Try.func11, Try.ntmps11
  go_wp2_with fail
  refine (CN.out _).mono ?_
  rintro e u1 ⟨rfl, g1⟩
  obtain ⟨hR, fR⟩ := mine ((alloc1 w _ _).alloc _ _) (Kept.of g1) (has_alloc (w.alloc (.cells #[.int .u8 c.sec, .int .u8 c.min, .int .u8 c.hour, .int .u16 c.day, .bool c.halt, .bool c.carry] 24)) #[.int .u8 0, .int .u8 0, .int .u8 0, .int .u16 0, .bool false, .bool false] 24) (by simp)
  simp only [World.size_alloc] at hR fR
  have G1 := hid (grown_trans ((alloc1 w _ _).alloc _ _) g1)
  obtain ⟨zR, cR⟩ := id hR
  have r0 := cR 0
  have r1 := cR 1
  have r2 := cR 2
  have r3 := cR 3
  have r4 := cR 4
  have r5 := cR 5
  simp at r0 r1 r2 r3 r4 r5
  have z1 : w.heap.size + 1 ≠ u1.heap.size := by omega
  have z2 : w.heap.size + 1 ≠ u1.heap.size + 1 := by omega
  have z3 : w.heap.size + 1 < u1.heap.size + 1 := by omega
  have z4 : w.heap.size + 1 < u1.heap.size + 1 + 1 := by omega
  clear g1 hR cR
  go_wp2_with fail
  refine (C1.out _).mono ?_
  rintro e v0 ⟨rfl, rfl⟩
  go_wp2
  exact bodyPost_ret (v := .agg #[.int .u8 ((sec + 1) % 64), .int .u8 (min), .int .u8 (hour), .int .u16 (day), .bool false, .bool carry]) (by simp [results, Try.results11, go_sem, r0, r1, r2, r3, r4, r5, zR, z1, z2, z3, z4]) rfl ⟨by rw [E.out], by repeat (first | with_reducible exact G1.out | with_reducible refine Grown.alloc ?_ _ _ | with_reducible refine Grown.setCell ?_ (Nat.le_succ _) _)⟩
set_option maxRecDepth 100000 in
set_option maxHeartbeats 4000000 in
theorem rtickM (c : Ck) (w : World) (I : CkIn c) (sec min hour day : Int) (halt carry : Bool) (N : normC c = ⟨sec, min, hour, day, halt, carry⟩) (O : CkOk ⟨sec, min, hour, day, halt, carry⟩) (hh : halt = false) (q1 : sec = 59) (q2 : min ≠ 59) : Calls Try.prog 11 #[ckV c] w fun e w' => e = .returned (ckV (tickN ⟨sec, min, hour, day, halt, carry⟩)) ∧ Grown w w' := by
  have CN := hid (fun u => rnorm_any c u I)
  rw [N] at CN
  clear N
  obtain ⟨a, b, d, e, f, g, i, j⟩ := O
  simp only at a b d e f g i j
  subst hh q1
  have E : Hid (tickN ⟨59, min, hour, day, false, carry⟩ = ⟨0, (min + 1) % 64, hour, day, false, carry⟩) := hid (by unfold tickN; simp [q2])
  have b2 : (min == 59) = false := by simpa using q2
  have C1 := hid (fun u => ron_any 59 59 64 u (by decide) (by omega) (by decide) (by decide))
  rw [show onC 59 59 64 = 0 by rfl] at C1
  have C2 := hid (fun u => ron_any min 59 64 u d (by omega) (by decide) (by decide))
  rw [show onC min 59 64 = (min + 1) % 64 by unfold onC; rw [if_neg q2]] at C2
  have wd : IntKind.u16.wrap (day + 1) = day + 1 := by rw [IntKind.wrap_u16]; omega
  have wd2 : (day + 1) % 65536 = day + 1 := by omega
  clear I
  go_enter Try.func11, Try.ntmps11
  go_wp2_with fail
  refine (CN.out _).mono ?_
  rintro e u1 ⟨rfl, g1⟩
  obtain ⟨hR, fR⟩ := mine ((alloc1 w _ _).alloc _ _) (Kept.of g1) (has_alloc (w.alloc (.cells #[.int .u8 c.sec, .int .u8 c.min, .int .u8 c.hour, .int .u16 c.day, .bool c.halt, .bool c.carry] 24)) #[.int .u8 0, .int .u8 0, .int .u8 0, .int .u16 0, .bool false, .bool false] 24) (by simp)
  simp only [World.size_alloc] at hR fR
  have G1 := hid (grown_trans ((alloc1 w _ _).alloc _ _) g1)
  obtain ⟨zR, cR⟩ := id hR
  have r0 := cR 0
  have r1 := cR 1
  have r2 := cR 2
  have r3 := cR 3
  have r4 := cR 4
  have r5 := cR 5
  simp at r0 r1 r2 r3 r4 r5
  have z1 : w.heap.size + 1 ≠ u1.heap.size := by omega
  have z2 : w.heap.size + 1 ≠ u1.heap.size + 1 := by omega
  have z3 : w.heap.size + 1 < u1.heap.size + 1 := by omega
  have z4 : w.heap.size + 1 < u1.heap.size + 1 + 1 := by omega
  clear g1 hR cR
  go_wp2_with fail
  refine (C1.out _).mono ?_
  rintro e v0 ⟨rfl, rfl⟩
  go_wp2_with fail
  refine (C2.out _).mono ?_
  rintro e v0 ⟨rfl, rfl⟩
  go_wp2
  exact bodyPost_ret (v := .agg #[.int .u8 (0), .int .u8 ((min + 1) % 64), .int .u8 (hour), .int .u16 (day), .bool false, .bool carry]) (by simp [results, Try.results11, go_sem, r0, r1, r2, r3, r4, r5, zR, z1, z2, z3, z4]) rfl ⟨by rw [E.out], by repeat (first | with_reducible exact G1.out | with_reducible refine Grown.alloc ?_ _ _ | with_reducible refine Grown.setCell ?_ (Nat.le_succ _) _)⟩
set_option maxRecDepth 100000 in
set_option maxHeartbeats 4000000 in
theorem rtickO (c : Ck) (w : World) (I : CkIn c) (sec min hour day : Int) (halt carry : Bool) (N : normC c = ⟨sec, min, hour, day, halt, carry⟩) (O : CkOk ⟨sec, min, hour, day, halt, carry⟩) (hh : halt = false) (q1 : sec = 59) (q2 : min = 59) (q3 : hour ≠ 23) : Calls Try.prog 11 #[ckV c] w fun e w' => e = .returned (ckV (tickN ⟨sec, min, hour, day, halt, carry⟩)) ∧ Grown w w' := by
  have CN := hid (fun u => rnorm_any c u I)
  rw [N] at CN
  clear N
  obtain ⟨a, b, d, e, f, g, i, j⟩ := O
  simp only at a b d e f g i j
  subst hh q1 q2
  have E : Hid (tickN ⟨59, 59, hour, day, false, carry⟩ = ⟨0, 0, (hour + 1) % 32, day, false, carry⟩) := hid (by unfold tickN; simp [q3])
  have b3 : (hour == 23) = false := by simpa using q3
  have C1 := hid (fun u => ron_any 59 59 64 u (by decide) (by omega) (by decide) (by decide))
  rw [show onC 59 59 64 = 0 by rfl] at C1
  have C2 := hid (fun u => ron_any 59 59 64 u (by decide) (by omega) (by decide) (by decide))
  rw [show onC 59 59 64 = 0 by rfl] at C2
  have C3 := hid (fun u => ron_any hour 23 32 u f (by omega) (by decide) (by decide))
  rw [show onC hour 23 32 = (hour + 1) % 32 by unfold onC; rw [if_neg q3]] at C3
  have wd : IntKind.u16.wrap (day + 1) = day + 1 := by rw [IntKind.wrap_u16]; omega
  have wd2 : (day + 1) % 65536 = day + 1 := by omega
  clear I
  go_enter Try.func11, Try.ntmps11
  go_wp2_with fail
  refine (CN.out _).mono ?_
  rintro e u1 ⟨rfl, g1⟩
  obtain ⟨hR, fR⟩ := mine ((alloc1 w _ _).alloc _ _) (Kept.of g1) (has_alloc (w.alloc (.cells #[.int .u8 c.sec, .int .u8 c.min, .int .u8 c.hour, .int .u16 c.day, .bool c.halt, .bool c.carry] 24)) #[.int .u8 0, .int .u8 0, .int .u8 0, .int .u16 0, .bool false, .bool false] 24) (by simp)
  simp only [World.size_alloc] at hR fR
  have G1 := hid (grown_trans ((alloc1 w _ _).alloc _ _) g1)
  obtain ⟨zR, cR⟩ := id hR
  have r0 := cR 0
  have r1 := cR 1
  have r2 := cR 2
  have r3 := cR 3
  have r4 := cR 4
  have r5 := cR 5
  simp at r0 r1 r2 r3 r4 r5
  have z1 : w.heap.size + 1 ≠ u1.heap.size := by omega
  have z2 : w.heap.size + 1 ≠ u1.heap.size + 1 := by omega
  have z3 : w.heap.size + 1 < u1.heap.size + 1 := by omega
  have z4 : w.heap.size + 1 < u1.heap.size + 1 + 1 := by omega
  clear g1 hR cR
  go_wp2_with fail
  refine (C1.out _).mono ?_
  rintro e v0 ⟨rfl, rfl⟩
  go_wp2_with fail
  refine (C2.out _).mono ?_
  rintro e v0 ⟨rfl, rfl⟩
  go_wp2_with fail
  refine (C3.out _).mono ?_
  rintro e v0 ⟨rfl, rfl⟩
  go_wp2
  exact bodyPost_ret (v := .agg #[.int .u8 (0), .int .u8 (0), .int .u8 ((hour + 1) % 32), .int .u16 (day), .bool false, .bool carry]) (by simp [results, Try.results11, go_sem, r0, r1, r2, r3, r4, r5, zR, z1, z2, z3, z4]) rfl ⟨by rw [E.out], by repeat (first | with_reducible exact G1.out | with_reducible refine Grown.alloc ?_ _ _ | with_reducible refine Grown.setCell ?_ (Nat.le_succ _) _)⟩
set_option maxRecDepth 100000 in
set_option maxHeartbeats 4000000 in
theorem rtickD (c : Ck) (w : World) (I : CkIn c) (sec min hour day : Int) (halt carry : Bool) (N : normC c = ⟨sec, min, hour, day, halt, carry⟩) (O : CkOk ⟨sec, min, hour, day, halt, carry⟩) (hh : halt = false) (q1 : sec = 59) (q2 : min = 59) (q3 : hour = 23) (q4 : day ≠ 511) : Calls Try.prog 11 #[ckV c] w fun e w' => e = .returned (ckV (tickN ⟨sec, min, hour, day, halt, carry⟩)) ∧ Grown w w' := by
  have CN := hid (fun u => rnorm_any c u I)
  rw [N] at CN
  clear N
  obtain ⟨a, b, d, e, f, g, i, j⟩ := O
  simp only at a b d e f g i j
  subst hh q1 q2 q3
  have E : Hid (tickN ⟨59, 59, 23, day, false, carry⟩ = ⟨0, 0, 0, day + 1, false, carry⟩) := hid (by unfold tickN; simp [q4])
  have b4 : (day == 511) = false := by simpa using q4
  have C1 := hid (fun u => ron_any 59 59 64 u (by decide) (by omega) (by decide) (by decide))
  rw [show onC 59 59 64 = 0 by rfl] at C1
  have C2 := hid (fun u => ron_any 59 59 64 u (by decide) (by omega) (by decide) (by decide))
  rw [show onC 59 59 64 = 0 by rfl] at C2
  have C3 := hid (fun u => ron_any 23 23 32 u (by decide) (by omega) (by decide) (by decide))
  rw [show onC 23 23 32 = 0 by rfl] at C3
  have wd : IntKind.u16.wrap (day + 1) = day + 1 := by rw [IntKind.wrap_u16]; omega
  have wd2 : (day + 1) % 65536 = day + 1 := by omega
  clear I
  go_enter Try.func11, Try.ntmps11
  go_wp2_with fail
  refine (CN.out _).mono ?_
  rintro e u1 ⟨rfl, g1⟩
  obtain ⟨hR, fR⟩ := mine ((alloc1 w _ _).alloc _ _) (Kept.of g1) (has_alloc (w.alloc (.cells #[.int .u8 c.sec, .int .u8 c.min, .int .u8 c.hour, .int .u16 c.day, .bool c.halt, .bool c.carry] 24)) #[.int .u8 0, .int .u8 0, .int .u8 0, .int .u16 0, .bool false, .bool false] 24) (by simp)
  simp only [World.size_alloc] at hR fR
  have G1 := hid (grown_trans ((alloc1 w _ _).alloc _ _) g1)
  obtain ⟨zR, cR⟩ := id hR
  have r0 := cR 0
  have r1 := cR 1
  have r2 := cR 2
  have r3 := cR 3
  have r4 := cR 4
  have r5 := cR 5
  simp at r0 r1 r2 r3 r4 r5
  have z1 : w.heap.size + 1 ≠ u1.heap.size := by omega
  have z2 : w.heap.size + 1 ≠ u1.heap.size + 1 := by omega
  have z3 : w.heap.size + 1 < u1.heap.size + 1 := by omega
  have z4 : w.heap.size + 1 < u1.heap.size + 1 + 1 := by omega
  clear g1 hR cR
  go_wp2_with fail
  refine (C1.out _).mono ?_
  rintro e v0 ⟨rfl, rfl⟩
  go_wp2_with fail
  refine (C2.out _).mono ?_
  rintro e v0 ⟨rfl, rfl⟩
  go_wp2_with fail
  refine (C3.out _).mono ?_
  rintro e v0 ⟨rfl, rfl⟩
  go_wp2
  exact bodyPost_ret (v := .agg #[.int .u8 (0), .int .u8 (0), .int .u8 (0), .int .u16 (day + 1), .bool false, .bool carry]) (by simp [results, Try.results11, go_sem, r0, r1, r2, r3, r4, r5, zR, z1, z2, z3, z4]) rfl ⟨by rw [E.out], by repeat (first | with_reducible exact G1.out | with_reducible refine Grown.alloc ?_ _ _ | with_reducible refine Grown.setCell ?_ (Nat.le_succ _) _)⟩
set_option maxRecDepth 100000 in
set_option maxHeartbeats 4000000 in
theorem rtickC (c : Ck) (w : World) (I : CkIn c) (sec min hour day : Int) (halt carry : Bool) (N : normC c = ⟨sec, min, hour, day, halt, carry⟩) (O : CkOk ⟨sec, min, hour, day, halt, carry⟩) (hh : halt = false) (q1 : sec = 59) (q2 : min = 59) (q3 : hour = 23) (q4 : day = 511) : Calls Try.prog 11 #[ckV c] w fun e w' => e = .returned (ckV (tickN ⟨sec, min, hour, day, halt, carry⟩)) ∧ Grown w w' := by
  have CN := hid (fun u => rnorm_any c u I)
  rw [N] at CN
  clear N
  obtain ⟨a, b, d, e, f, g, i, j⟩ := O
  simp only at a b d e f g i j
  subst hh q1 q2 q3 q4
  have E : Hid (tickN ⟨59, 59, 23, 511, false, carry⟩ = ⟨0, 0, 0, 0, false, true⟩) := hid (by unfold tickN; simp)
  have C1 := hid (fun u => ron_any 59 59 64 u (by decide) (by omega) (by decide) (by decide))
  rw [show onC 59 59 64 = 0 by rfl] at C1
  have C2 := hid (fun u => ron_any 59 59 64 u (by decide) (by omega) (by decide) (by decide))
  rw [show onC 59 59 64 = 0 by rfl] at C2
  have C3 := hid (fun u => ron_any 23 23 32 u (by decide) (by omega) (by decide) (by decide))
  rw [show onC 23 23 32 = 0 by rfl] at C3
  clear I
  go_enter Try.func11, Try.ntmps11
  go_wp2_with fail
  refine (CN.out _).mono ?_
  rintro e u1 ⟨rfl, g1⟩
  obtain ⟨hR, fR⟩ := mine ((alloc1 w _ _).alloc _ _) (Kept.of g1) (has_alloc (w.alloc (.cells #[.int .u8 c.sec, .int .u8 c.min, .int .u8 c.hour, .int .u16 c.day, .bool c.halt, .bool c.carry] 24)) #[.int .u8 0, .int .u8 0, .int .u8 0, .int .u16 0, .bool false, .bool false] 24) (by simp)
  simp only [World.size_alloc] at hR fR
  have G1 := hid (grown_trans ((alloc1 w _ _).alloc _ _) g1)
  obtain ⟨zR, cR⟩ := id hR
  have r0 := cR 0
  have r1 := cR 1
  have r2 := cR 2
  have r3 := cR 3
  have r4 := cR 4
  have r5 := cR 5
  simp at r0 r1 r2 r3 r4 r5
  have z1 : w.heap.size + 1 ≠ u1.heap.size := by omega
  have z2 : w.heap.size + 1 ≠ u1.heap.size + 1 := by omega
  have z3 : w.heap.size + 1 < u1.heap.size + 1 := by omega
  have z4 : w.heap.size + 1 < u1.heap.size + 1 + 1 := by omega
  clear g1 hR cR
  go_wp2_with fail
  refine (C1.out _).mono ?_
  rintro e v0 ⟨rfl, rfl⟩
  go_wp2_with fail
  refine (C2.out _).mono ?_
  rintro e v0 ⟨rfl, rfl⟩
  go_wp2_with fail
  refine (C3.out _).mono ?_
  rintro e v0 ⟨rfl, rfl⟩
  go_wp2
  exact bodyPost_ret (v := .agg #[.int .u8 (0), .int .u8 (0), .int .u8 (0), .int .u16 (0), .bool false, .bool true]) (by simp [results, Try.results11, go_sem, r0, r1, r2, r3, r4, r5, zR, z1, z2, z3, z4]) rfl ⟨by rw [E.out], by repeat (first | with_reducible exact G1.out | with_reducible refine Grown.alloc ?_ _ _ | with_reducible refine Grown.setCell ?_ (Nat.le_succ _) _)⟩
theorem rtick_any (c : Ck) (w : World) (I : CkIn c) : Calls Try.prog 11 #[ckV c] w fun e w' => e = .returned (ckV (tickC c)) ∧ Grown w w' := by
  have O := norm_ok I
  unfold tickC
  obtain ⟨N, hN⟩ : ∃ v, normC c = v := ⟨_, rfl⟩
  rw [hN] at O ⊢
  obtain ⟨sec, min, hour, day, halt, carry⟩ := N
  cases halt
  · by_cases q1 : sec = 59
    · by_cases q2 : min = 59
      · by_cases q3 : hour = 23
        · by_cases q4 : day = 511
          · exact rtickC c w I _ _ _ _ _ _ hN O rfl q1 q2 q3 q4
          · exact rtickD c w I _ _ _ _ _ _ hN O rfl q1 q2 q3 q4
        · exact rtickO c w I _ _ _ _ _ _ hN O rfl q1 q2 q3
      · exact rtickM c w I _ _ _ _ _ _ hN O rfl q1 q2
    · exact rtickS c w I _ _ _ _ _ _ hN O rfl q1
  · exact rtickH c w I _ _ _ _ _ _ hN O rfl
end Go.Proofs.Ytpnidlibgpbjgaa
