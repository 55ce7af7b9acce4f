/- The program's clock: Norm, Tick. The program's clock: more, Read, Write. -/
import Derived.Test.YtfmddnekooojkaaGreatDoorG08
import Derived.WalkMore
namespace Go.Proofs.YtfmddnekooojkaaGreatDoor
open Go.RowKit
set_option linter.unusedVariables false
set_option linter.unusedSimpArgs false

set_option maxRecDepth 100000 in
theorem gnorm_any (c : Ck) (w : World) (I : CkIn c) : Calls Tryz.prog 55 #[ckV c] w fun e w' => e = .returned (ckV (normC c)) ∧ Grown w w' := by
  obtain ⟨a, b, d, e, f, g, i, j⟩ := I
  have t1 : Int.tmod c.sec 64 = c.sec % 64 := Int.tmod_eq_emod_of_nonneg a
  have t2 : Int.tmod c.min 64 = c.min % 64 := Int.tmod_eq_emod_of_nonneg d
  have t3 : Int.tmod c.hour 32 = c.hour % 32 := Int.tmod_eq_emod_of_nonneg f
  have t4 : Int.tmod c.day 512 = c.day % 512 := Int.tmod_eq_emod_of_nonneg i
  have w1 : IntKind.u8.wrap (c.sec % 64) = c.sec % 64 := by rw [IntKind.wrap_u8]; omega
  have w2 : IntKind.u8.wrap (c.min % 64) = c.min % 64 := by rw [IntKind.wrap_u8]; omega
  have w3 : IntKind.u8.wrap (c.hour % 32) = c.hour % 32 := by rw [IntKind.wrap_u8]; omega
  have w4 : IntKind.u16.wrap (c.day % 512) = c.day % 512 := by rw [IntKind.wrap_u16]; omega
  go_enter Tryz.func55, Tryz.ntmps55
  go_wp2
  exact bodyPost_ret (v := .agg #[.int .u8 (c.sec % 64), .int .u8 (c.min % 64), .int .u8 (c.hour % 32), .int .u16 (c.day % 512), .bool c.halt, .bool c.carry]) (by simp [results, Tryz.results55, go_sem]) rfl ⟨rfl, by repeat (first | with_reducible exact Grown.refl _ | with_reducible refine Grown.alloc ?_ _ _ | with_reducible refine Grown.setCell ?_ (Nat.le_refl _) _ | with_reducible refine Grown.setCell ?_ (Nat.le_succ _) _)⟩
theorem cnorm_any (c : Ck) (w : World) (I : CkIn c) : Calls Tryz.prog 55 #[ckV c] w fun e w' => e = .returned (ckV (normC c)) ∧ Kept w w' :=
  (gnorm_any c w I).mono fun e w' h => ⟨h.1, Kept.of h.2⟩
set_option maxRecDepth 100000 in
set_option maxHeartbeats 4000000 in
theorem gtickH (c : Ck) (w : World) (I : CkIn c) (sec min hour day : Int) (halt carry : Bool) (N : normC c = ⟨sec, min, hour, day, halt, carry⟩) (O : CkOk ⟨sec, min, hour, day, halt, carry⟩) (hh : halt = true) : Calls Tryz.prog 37 #[ckV c] w fun e w' => e = .returned (ckV (tickN ⟨sec, min, hour, day, halt, carry⟩)) ∧ Grown w w' := by
  have CN := hid (fun u => gnorm_any c u I)
  rw [N] at CN
  clear N
  obtain ⟨a, b, d, e, f, g, i, j⟩ := O
  simp only at a b d e f g i j
  subst hh
  have E : Hid (tickN ⟨sec, min, hour, day, true, carry⟩ = ⟨sec, min, hour, day, true, carry⟩) := hid (by unfold tickN; simp)
  clear I
  go_enter Tryz.func37, Tryz.ntmps37
  go_wp2_with fail
  go_step3
  go_wp2_with fail
  refine (CN.out _).mono ?_
  rintro e u1 ⟨rfl, g1⟩
  obtain ⟨hR, fR⟩ := mine ((alloc1 w _ _).alloc _ _) (Kept.of g1) (has_alloc (w.alloc (.cells #[.int .u8 c.sec, .int .u8 c.min, .int .u8 c.hour, .int .u16 c.day, .bool c.halt, .bool c.carry] 35)) #[.int .u8 0, .int .u8 0, .int .u8 0, .int .u16 0, .bool false, .bool false] 35) (by simp)
  simp only [World.size_alloc] at hR fR
  obtain ⟨hP, fP⟩ := mine ((alloc1 w _ _).alloc _ _) (Kept.of g1) (has_past (has_alloc w #[.int .u8 c.sec, .int .u8 c.min, .int .u8 c.hour, .int .u16 c.day, .bool c.halt, .bool c.carry] 35) (.cells #[.int .u8 0, .int .u8 0, .int .u8 0, .int .u16 0, .bool false, .bool false] 35)) (Nat.le_refl _)
  have G1 := hid (grown_trans ((alloc1 w _ _).alloc _ _) g1)
  have HP := hid hP
  have HR := hid hR
  obtain ⟨zR, cR⟩ := id hR
  obtain ⟨zP, cP⟩ := id hP
  have r0 := cR 0
  have r1 := cR 1
  have r2 := cR 2
  have r3 := cR 3
  have r4 := cR 4
  have r5 := cR 5
  have p0 := cP 0
  have p1 := cP 1
  have p2 := cP 2
  have p3 := cP 3
  have p4 := cP 4
  have p5 := cP 5
  simp at r0 r1 r2 r3 r4 r5 p0 p1 p2 p3 p4 p5
  have n1 : w.heap.size ≠ w.heap.size + 1 := by omega
  have n2 : w.heap.size + 1 ≠ w.heap.size := by omega
  clear g1 hR cR hP cP
  go_wp2
  rw [Exit.noGoto_ret]
  exact bodyPost_ret (v := .agg #[.int .u8 (sec), .int .u8 (min), .int .u8 (hour), .int .u16 (day), .bool true, .bool carry]) (by simp [results, Tryz.results37, go_sem, r0, r1, r2, r3, r4, r5, zR, n1, n2]) rfl ⟨by rw [E.out], by repeat (first | with_reducible exact Grown.refl _ | with_reducible exact G1.out | with_reducible refine Grown.alloc ?_ _ _ | with_reducible refine Grown.setCell ?_ (Nat.le_refl _) _ | with_reducible refine Grown.setCell ?_ (Nat.le_succ _) _)⟩
set_option maxRecDepth 100000 in
set_option maxHeartbeats 4000000 in
theorem gtickL (c : Ck) (w : World) (I : CkIn c) (sec min hour day : Int) (halt carry : Bool) (N : normC c = ⟨sec, min, hour, day, halt, carry⟩) (O : CkOk ⟨sec, min, hour, day, halt, carry⟩) (hh : halt = false) : Calls Tryz.prog 37 #[ckV c] w fun e w' => e = .returned (ckV (tickN ⟨sec, min, hour, day, halt, carry⟩)) ∧ Grown w w' := by
  have CN := hid (fun u => gnorm_any c u I)
  rw [N] at CN
  clear N
  obtain ⟨a, b, d, e, f, g, i, j⟩ := O
  simp only at a b d e f g i j
  subst hh
  have E0 := hid (fun (h : sec ≠ 59) => show tickN ⟨sec, min, hour, day, false, carry⟩ = ⟨(sec + 1) % 64, min, hour, day, false, carry⟩ by unfold tickN; simp [h])
  have E1 := hid (fun (q : sec = 59) (h : min ≠ 59) => show tickN ⟨sec, min, hour, day, false, carry⟩ = ⟨0, (min + 1) % 64, hour, day, false, carry⟩ by unfold tickN; simp [q, h])
  have E2 := hid (fun (q : sec = 59) (q2 : min = 59) (h : hour ≠ 23) => show tickN ⟨sec, min, hour, day, false, carry⟩ = ⟨0, 0, (hour + 1) % 32, day, false, carry⟩ by unfold tickN; simp [q, q2, h])
  have E3 := hid (fun (q : sec = 59) (q2 : min = 59) (q3 : hour = 23) (h : day ≠ 511) => show tickN ⟨sec, min, hour, day, false, carry⟩ = ⟨0, 0, 0, day + 1, false, carry⟩ by unfold tickN; simp [q, q2, q3, h])
  have E4 := hid (fun (q : sec = 59) (q2 : min = 59) (q3 : hour = 23) (h : day = 511) => show tickN ⟨sec, min, hour, day, false, carry⟩ = ⟨0, 0, 0, 0, false, true⟩ by unfold tickN; simp [q, q2, q3, h])
  generalize tickN ⟨sec, min, hour, day, false, carry⟩ = RES at *
  have esec1 : IntKind.u8.wrap (sec + 1) = sec + 1 := by rw [IntKind.wrap_u8]; omega
  have esec2 : Int.tmod (sec + 1) 64 = (sec + 1) % 64 := Int.tmod_eq_emod_of_nonneg (by omega)
  have esec3 : IntKind.u8.wrap ((sec + 1) % 64) = (sec + 1) % 64 := by rw [IntKind.wrap_u8]; omega
  have esec4 : (sec + 1) % 256 = sec + 1 := by omega
  have esec5 : (sec + 1) % 64 % 256 = (sec + 1) % 64 := by omega
  have emin1 : IntKind.u8.wrap (min + 1) = min + 1 := by rw [IntKind.wrap_u8]; omega
  have emin2 : Int.tmod (min + 1) 64 = (min + 1) % 64 := Int.tmod_eq_emod_of_nonneg (by omega)
  have emin3 : IntKind.u8.wrap ((min + 1) % 64) = (min + 1) % 64 := by rw [IntKind.wrap_u8]; omega
  have emin4 : (min + 1) % 256 = min + 1 := by omega
  have emin5 : (min + 1) % 64 % 256 = (min + 1) % 64 := by omega
  have ehour1 : IntKind.u8.wrap (hour + 1) = hour + 1 := by rw [IntKind.wrap_u8]; omega
  have ehour2 : Int.tmod (hour + 1) 32 = (hour + 1) % 32 := Int.tmod_eq_emod_of_nonneg (by omega)
  have ehour3 : IntKind.u8.wrap ((hour + 1) % 32) = (hour + 1) % 32 := by rw [IntKind.wrap_u8]; omega
  have ehour4 : (hour + 1) % 256 = hour + 1 := by omega
  have ehour5 : (hour + 1) % 32 % 256 = (hour + 1) % 32 := by omega
  have wd : IntKind.u16.wrap (day + 1) = day + 1 := by rw [IntKind.wrap_u16]; omega
  have wd2 : (day + 1) % 65536 = day + 1 := by omega
  clear I
  go_enter Tryz.func37, Tryz.ntmps37
  go_wp2_with fail
  go_step3
  go_wp2_with fail
  refine (CN.out _).mono ?_
  rintro e u1 ⟨rfl, g1⟩
  obtain ⟨hR, fR⟩ := mine ((alloc1 w _ _).alloc _ _) (Kept.of g1) (has_alloc (w.alloc (.cells #[.int .u8 c.sec, .int .u8 c.min, .int .u8 c.hour, .int .u16 c.day, .bool c.halt, .bool c.carry] 35)) #[.int .u8 0, .int .u8 0, .int .u8 0, .int .u16 0, .bool false, .bool false] 35) (by simp)
  simp only [World.size_alloc] at hR fR
  obtain ⟨hP, fP⟩ := mine ((alloc1 w _ _).alloc _ _) (Kept.of g1) (has_past (has_alloc w #[.int .u8 c.sec, .int .u8 c.min, .int .u8 c.hour, .int .u16 c.day, .bool c.halt, .bool c.carry] 35) (.cells #[.int .u8 0, .int .u8 0, .int .u8 0, .int .u16 0, .bool false, .bool false] 35)) (Nat.le_refl _)
  have G1 := hid (grown_trans ((alloc1 w _ _).alloc _ _) g1)
  have HP := hid hP
  have HR := hid hR
  obtain ⟨zR, cR⟩ := id hR
  obtain ⟨zP, cP⟩ := id hP
  have r0 := cR 0
  have r1 := cR 1
  have r2 := cR 2
  have r3 := cR 3
  have r4 := cR 4
  have r5 := cR 5
  have p0 := cP 0
  have p1 := cP 1
  have p2 := cP 2
  have p3 := cP 3
  have p4 := cP 4
  have p5 := cP 5
  simp at r0 r1 r2 r3 r4 r5 p0 p1 p2 p3 p4 p5
  have n1 : w.heap.size ≠ w.heap.size + 1 := by omega
  have n2 : w.heap.size + 1 ≠ w.heap.size := by omega
  clear g1 hR cR hP cP
  go_wp2_with fail
  go_step3
  go_wp2_with fail
  go_loopw [3] (fun i wr => Grown w wr ∧ Has wr (w.heap.size + 1) #[.int .u8 0, .int .u8 0, .int .u8 0, .int .u16 0, .bool false, .bool false] ∧ ((i = .int .i64 8 ∧ Has wr w.heap.size #[.int .u8 (sec), .int .u8 (min), .int .u8 (hour), .int .u16 (day), .bool false, .bool carry]) ∨ (i = .int .i64 9 ∧ sec = 59 ∧ Has wr w.heap.size #[.int .u8 (0), .int .u8 (min), .int .u8 (hour), .int .u16 (day), .bool false, .bool carry]) ∨ (i = .int .i64 10 ∧ sec = 59 ∧ min = 59 ∧ Has wr w.heap.size #[.int .u8 (0), .int .u8 (0), .int .u8 (hour), .int .u16 (day), .bool false, .bool carry]) ∨ (i = .int .i64 11 ∧ sec = 59 ∧ min = 59 ∧ hour = 23 ∧ Has wr w.heap.size #[.int .u8 (0), .int .u8 (0), .int .u8 (0), .int .u16 (day), .bool false, .bool carry]) ∨ (i = .int .i64 12 ∧ sec = 59 ∧ min = 59 ∧ hour = 23 ∧ day = 511 ∧ Has wr w.heap.size #[.int .u8 (0), .int .u8 (0), .int .u8 (0), .int .u16 (0), .bool false, .bool true]))) (fun i _ => 12 - (intOf i).toNat)
  case atStart => exact ⟨by repeat (first | with_reducible exact G1.out | with_reducible refine Grown.setCell ?_ (Nat.le_refl _) _), by repeat (first | with_reducible exact HR.out | with_reducible refine has_other ?_ n1 _), .inl ⟨rfl, has_set6 HP.out _ _ _ _ _ _⟩⟩
  case round =>
    obtain ⟨hg, hr, hk⟩ := hrel
    have Gj := hid hg
    have HRj := hid hr
    obtain ⟨zr, cr⟩ := id hr
    have s0 := cr 0
    have s1 := cr 1
    have s2 := cr 2
    have s3 := cr 3
    have s4 := cr 4
    have s5 := cr 5
    simp at s0 s1 s2 s3 s4 s5
    have fp := fun o => grown_froz hg (Nat.le_refl w.heap.size) o
    have fq := fun o => grown_froz hg (Nat.le_succ w.heap.size) o
    clear hg hr cr HR HP G1 zP zR fR fP r0 r1 r2 r3 r4 r5 p0 p1 p2 p3 p4 p5
    rcases hk with ⟨rfl, hp⟩ | ⟨rfl, q0, hp⟩ | ⟨rfl, q0, q1, hp⟩ | ⟨rfl, q0, q1, q2, hp⟩ | ⟨rfl, q0, q1, q2, q3, hp⟩
    · have HPj := hid hp
      obtain ⟨zp, cp⟩ := id hp
      have p0 := cp 0
      have p1 := cp 1
      have p2 := cp 2
      have p3 := cp 3
      have p4 := cp 4
      have p5 := cp 5
      simp at p0 p1 p2 p3 p4 p5
      clear hp cp
      by_cases h : sec = 59
      · have b1 : (sec != 59) = false := by simpa using h
        have Hh := hid h
        clear h
        go_wp2_with fail
        go_roundw
        case rel => exact ⟨by repeat (first | with_reducible exact Gj.out | with_reducible refine Grown.setCell ?_ (Nat.le_refl _) _ | with_reducible refine Grown.setCell ?_ (Nat.le_succ _) _), (by repeat (first | with_reducible exact HRj.out | with_reducible refine has_other ?_ n1 _)), .inr (.inl ⟨by go_num, Hh.out, has_set HPj.out 0 _ (by simp)⟩)⟩
        case measure => first | omega | (simp; omega) | (simp [intOf]; omega) | (simp [intOf]; done)
      · have b1 : (sec != 59) = true := by simpa using h
        have E := hid (E0.out h)
        go_wp2
        rw [Exit.noGoto_ret]
        exact bodyPost_ret (v := .agg #[.int .u8 ((sec + 1) % 64), .int .u8 (min), .int .u8 (hour), .int .u16 (day), .bool false, .bool carry]) (by simp [results, Tryz.results37, go_sem, s0, s1, s2, s3, s4, s5, p0, p1, p2, p3, p4, p5, zr, zp, n1, n2]) rfl ⟨by rw [E.out], by repeat (first | with_reducible exact Gj.out | with_reducible refine Grown.setCell ?_ (Nat.le_refl _) _ | with_reducible refine Grown.setCell ?_ (Nat.le_succ _) _)⟩
    · have HPj := hid hp
      obtain ⟨zp, cp⟩ := id hp
      have p0 := cp 0
      have p1 := cp 1
      have p2 := cp 2
      have p3 := cp 3
      have p4 := cp 4
      have p5 := cp 5
      simp at p0 p1 p2 p3 p4 p5
      clear hp cp
      have Q0 := hid q0
      clear q0
      by_cases h : min = 59
      · have b1 : (min != 59) = false := by simpa using h
        have Hh := hid h
        clear h
        go_wp2_with fail
        go_roundw
        case rel => exact ⟨by repeat (first | with_reducible exact Gj.out | with_reducible refine Grown.setCell ?_ (Nat.le_refl _) _ | with_reducible refine Grown.setCell ?_ (Nat.le_succ _) _), (by repeat (first | with_reducible exact HRj.out | with_reducible refine has_other ?_ n1 _)), .inr (.inr (.inl ⟨by go_num, Q0.out, Hh.out, has_set HPj.out 1 _ (by simp)⟩))⟩
        case measure => first | omega | (simp; omega) | (simp [intOf]; omega) | (simp [intOf]; done)
      · have b1 : (min != 59) = true := by simpa using h
        have E := hid (E1.out Q0.out h)
        go_wp2
        rw [Exit.noGoto_ret]
        exact bodyPost_ret (v := .agg #[.int .u8 (0), .int .u8 ((min + 1) % 64), .int .u8 (hour), .int .u16 (day), .bool false, .bool carry]) (by simp [results, Tryz.results37, go_sem, s0, s1, s2, s3, s4, s5, p0, p1, p2, p3, p4, p5, zr, zp, n1, n2]) rfl ⟨by rw [E.out], by repeat (first | with_reducible exact Gj.out | with_reducible refine Grown.setCell ?_ (Nat.le_refl _) _ | with_reducible refine Grown.setCell ?_ (Nat.le_succ _) _)⟩
    · have HPj := hid hp
      obtain ⟨zp, cp⟩ := id hp
      have p0 := cp 0
      have p1 := cp 1
      have p2 := cp 2
      have p3 := cp 3
      have p4 := cp 4
      have p5 := cp 5
      simp at p0 p1 p2 p3 p4 p5
      clear hp cp
      have Q0 := hid q0
      clear q0
      have Q1 := hid q1
      clear q1
      by_cases h : hour = 23
      · have b1 : (hour != 23) = false := by simpa using h
        have Hh := hid h
        clear h
        go_wp2_with fail
        go_roundw
        case rel => exact ⟨by repeat (first | with_reducible exact Gj.out | with_reducible refine Grown.setCell ?_ (Nat.le_refl _) _ | with_reducible refine Grown.setCell ?_ (Nat.le_succ _) _), (by repeat (first | with_reducible exact HRj.out | with_reducible refine has_other ?_ n1 _)), .inr (.inr (.inr (.inl ⟨by go_num, Q0.out, Q1.out, Hh.out, has_set HPj.out 2 _ (by simp)⟩)))⟩
        case measure => first | omega | (simp; omega) | (simp [intOf]; omega) | (simp [intOf]; done)
      · have b1 : (hour != 23) = true := by simpa using h
        have E := hid (E2.out Q0.out Q1.out h)
        go_wp2
        rw [Exit.noGoto_ret]
        exact bodyPost_ret (v := .agg #[.int .u8 (0), .int .u8 (0), .int .u8 ((hour + 1) % 32), .int .u16 (day), .bool false, .bool carry]) (by simp [results, Tryz.results37, go_sem, s0, s1, s2, s3, s4, s5, p0, p1, p2, p3, p4, p5, zr, zp, n1, n2]) rfl ⟨by rw [E.out], by repeat (first | with_reducible exact Gj.out | with_reducible refine Grown.setCell ?_ (Nat.le_refl _) _ | with_reducible refine Grown.setCell ?_ (Nat.le_succ _) _)⟩
    · have HPj := hid hp
      obtain ⟨zp, cp⟩ := id hp
      have p0 := cp 0
      have p1 := cp 1
      have p2 := cp 2
      have p3 := cp 3
      have p4 := cp 4
      have p5 := cp 5
      simp at p0 p1 p2 p3 p4 p5
      clear hp cp
      have Q0 := hid q0
      clear q0
      have Q1 := hid q1
      clear q1
      have Q2 := hid q2
      clear q2
      by_cases h : day = 511
      · have b1 : (day != 511) = false := by simpa using h
        have Hh := hid h
        clear h
        go_wp2_with fail
        go_roundw
        case rel => exact ⟨by repeat (first | with_reducible exact Gj.out | with_reducible refine Grown.setCell ?_ (Nat.le_refl _) _ | with_reducible refine Grown.setCell ?_ (Nat.le_succ _) _), (by repeat (first | with_reducible exact HRj.out | with_reducible refine has_other ?_ n1 _)), .inr (.inr (.inr (.inr (⟨by go_num, Q0.out, Q1.out, Q2.out, Hh.out, has_set (has_set HPj.out 3 _ (by simp)) 5 _ (by simp)⟩))))⟩
        case measure => first | omega | (simp; omega) | (simp [intOf]; omega) | (simp [intOf]; done)
      · have b1 : (day != 511) = true := by simpa using h
        have E := hid (E3.out Q0.out Q1.out Q2.out h)
        go_wp2
        rw [Exit.noGoto_ret]
        exact bodyPost_ret (v := .agg #[.int .u8 (0), .int .u8 (0), .int .u8 (0), .int .u16 (day + 1), .bool false, .bool carry]) (by simp [results, Tryz.results37, go_sem, s0, s1, s2, s3, s4, s5, p0, p1, p2, p3, p4, p5, zr, zp, n1, n2]) rfl ⟨by rw [E.out], by repeat (first | with_reducible exact Gj.out | with_reducible refine Grown.setCell ?_ (Nat.le_refl _) _ | with_reducible refine Grown.setCell ?_ (Nat.le_succ _) _)⟩
    · have HPj := hid hp
      obtain ⟨zp, cp⟩ := id hp
      have p0 := cp 0
      have p1 := cp 1
      have p2 := cp 2
      have p3 := cp 3
      have p4 := cp 4
      have p5 := cp 5
      simp at p0 p1 p2 p3 p4 p5
      clear hp cp
      have Q0 := hid q0
      clear q0
      have Q1 := hid q1
      clear q1
      have Q2 := hid q2
      clear q2
      have Q3 := hid q3
      clear q3
      have E := hid (E4.out Q0.out Q1.out Q2.out Q3.out)
      go_wp2
      rw [Exit.noGoto_ret]
      exact bodyPost_ret (v := .agg #[.int .u8 (0), .int .u8 (0), .int .u8 (0), .int .u16 (0), .bool false, .bool true]) (by simp [results, Tryz.results37, go_sem, s0, s1, s2, s3, s4, s5, zr, zp, n1, n2]) rfl ⟨by rw [E.out], by repeat (first | with_reducible exact Gj.out | with_reducible refine Grown.setCell ?_ (Nat.le_refl _) _ | with_reducible refine Grown.setCell ?_ (Nat.le_succ _) _)⟩
theorem gtick_any (c : Ck) (w : World) (I : CkIn c) : Calls Tryz.prog 37 #[ckV c] w fun e w' => e = .returned (ckV (tickC c)) ∧ Grown w w' := by
  have O := norm_ok I
  unfold tickC
  obtain ⟨N, hN⟩ : ∃ v, normC c = v := ⟨_, rfl⟩
  rw [hN] at O ⊢
  obtain ⟨sec, min, hour, day, halt, carry⟩ := N
  cases halt
  · exact gtickL c w I _ _ _ _ _ _ hN O rfl
  · exact gtickH c w I _ _ _ _ _ _ hN O rfl
theorem ctick_any (c : Ck) (w : World) (I : CkIn c) : Calls Tryz.prog 37 #[ckV c] w fun e w' => e = .returned (ckV (tickC c)) ∧ Kept w w' :=
  (gtick_any c w I).mono fun e w' h => ⟨h.1, Kept.of h.2⟩
end Go.Proofs.YtfmddnekooojkaaGreatDoor
namespace Go.Proofs.YtfmddnekooojkaaGreatDoor
open Go.RowKit
set_option linter.unusedVariables false
set_option linter.unusedSimpArgs false

set_option maxRecDepth 100000 in
theorem gmore_any (sec min hour day : Int) (halt carry : Bool) (w : World) (O : CkOk ⟨sec, min, hour, day, halt, carry⟩) : Calls Tryz.prog 56 #[ckV ⟨sec, min, hour, day, halt, carry⟩] w fun e w' => e = .returned (.int .u8 (readV ⟨sec, min, hour, day, halt, carry⟩ 12)) ∧ Grown w w' := by
  have o1 : bits .or .u8 0 1 = 1 := by decide +kernel
  have o2 : bits .or .u8 0 64 = 64 := by decide +kernel
  have o3 : bits .or .u8 1 64 = 65 := by decide +kernel
  have o4 : bits .or .u8 0 128 = 128 := by decide +kernel
  have o5 : bits .or .u8 1 128 = 129 := by decide +kernel
  have o6 : bits .or .u8 64 128 = 192 := by decide +kernel
  have o7 : bits .or .u8 65 128 = 193 := by decide +kernel
  obtain ⟨a, b, d, e, f, g, i, j⟩ := O
  simp only at a b d e f g i j
  by_cases h : 255 < day
  · have dd : decide (255 < day) = true := decide_eq_true h
    have q : day / 256 = 1 := by omega
    cases halt <;> cases carry
    · have E := hid (show readV ⟨sec, min, hour, day, false, false⟩ 12 = 1 by show day / 256 + 0 + 0 = _; omega)
      clear q
      go_enter Tryz.func56, Tryz.ntmps56
      go_wp2
      go_ret
      exact ⟨by rw [E.out]; rfl, alloc1 _ _ _⟩
    · have E := hid (show readV ⟨sec, min, hour, day, false, true⟩ 12 = 129 by show day / 256 + 0 + 128 = _; omega)
      clear q
      go_enter Tryz.func56, Tryz.ntmps56
      go_wp2
      go_ret
      exact ⟨by rw [E.out]; rfl, alloc1 _ _ _⟩
    · have E := hid (show readV ⟨sec, min, hour, day, true, false⟩ 12 = 65 by show day / 256 + 64 + 0 = _; omega)
      clear q
      go_enter Tryz.func56, Tryz.ntmps56
      go_wp2
      go_ret
      exact ⟨by rw [E.out]; rfl, alloc1 _ _ _⟩
    · have E := hid (show readV ⟨sec, min, hour, day, true, true⟩ 12 = 193 by show day / 256 + 64 + 128 = _; omega)
      clear q
      go_enter Tryz.func56, Tryz.ntmps56
      go_wp2
      go_ret
      exact ⟨by rw [E.out]; rfl, alloc1 _ _ _⟩
  · have dd : decide (255 < day) = false := decide_eq_false h
    have q : day / 256 = 0 := by omega
    cases halt <;> cases carry
    · have E := hid (show readV ⟨sec, min, hour, day, false, false⟩ 12 = 0 by show day / 256 + 0 + 0 = _; omega)
      clear q
      go_enter Tryz.func56, Tryz.ntmps56
      go_wp2
      go_ret
      exact ⟨by rw [E.out]; rfl, alloc1 _ _ _⟩
    · have E := hid (show readV ⟨sec, min, hour, day, false, true⟩ 12 = 128 by show day / 256 + 0 + 128 = _; omega)
      clear q
      go_enter Tryz.func56, Tryz.ntmps56
      go_wp2
      go_ret
      exact ⟨by rw [E.out]; rfl, alloc1 _ _ _⟩
    · have E := hid (show readV ⟨sec, min, hour, day, true, false⟩ 12 = 64 by show day / 256 + 64 + 0 = _; omega)
      clear q
      go_enter Tryz.func56, Tryz.ntmps56
      go_wp2
      go_ret
      exact ⟨by rw [E.out]; rfl, alloc1 _ _ _⟩
    · have E := hid (show readV ⟨sec, min, hour, day, true, true⟩ 12 = 192 by show day / 256 + 64 + 128 = _; omega)
      clear q
      go_enter Tryz.func56, Tryz.ntmps56
      go_wp2
      go_ret
      exact ⟨by rw [E.out]; rfl, alloc1 _ _ _⟩
set_option maxRecDepth 100000 in
set_option maxHeartbeats 4000000 in
theorem gread_any (c : Ck) (r : Int) (w : World) (I : CkIn c) : Calls Tryz.prog 27 #[ckV c, .int .i64 r] w fun e w' => e = .returned (.tuple #[.int .u8 (readC c r), .int .i64 (regE r)]) ∧ Grown w w' := by
  have CN := hid (fun u => gnorm_any c u I)
  have O := norm_ok I
  have NO := hid (readC_no c r)
  unfold readC at *
  obtain ⟨N, hN⟩ : ∃ v, normC c = v := ⟨_, rfl⟩
  rw [hN] at O CN NO ⊢
  clear hN I
  obtain ⟨sec, min, hour, day, halt, carry⟩ := N
  have CM := hid (fun u => gmore_any sec min hour day halt carry u O)
  obtain ⟨a, b, d, e, f, g, i, j⟩ := O
  simp only at a b d e f g i j
  have t1 : Int.tmod day 256 = day % 256 := Int.tmod_eq_emod_of_nonneg i
  have w1 : IntKind.u16.wrap (day % 256) = day % 256 := by rw [IntKind.wrap_u16]; omega
  have w2 : IntKind.u8.wrap (day % 256) = day % 256 := by rw [IntKind.wrap_u8]; omega
  rcases regs_of r with rfl | rfl | rfl | rfl | rfl | hr
  · have E := hid (show readV ⟨sec, min, hour, day, halt, carry⟩ 8 = sec ∧ regE 8 = 0 from ⟨rfl, rfl⟩)
    go_enter Tryz.func27, Tryz.ntmps27
    go_wp2_with fail
    refine (CN.out _).mono ?_
    rintro e u1 ⟨rfl, g1⟩
    obtain ⟨hP, fP⟩ := mine (alloc1 w _ _) (Kept.of g1) (has_alloc w #[.int .u8 c.sec, .int .u8 c.min, .int .u8 c.hour, .int .u16 c.day, .bool c.halt, .bool c.carry] 35) (Nat.le_refl _)
    have G1 := hid (grown_trans (alloc1 w _ _) g1)
    obtain ⟨zP, cP⟩ := id hP
    have p0 := cP 0
    have p1 := cP 1
    have p2 := cP 2
    have p3 := cP 3
    have p4 := cP 4
    have p5 := cP 5
    simp at p0 p1 p2 p3 p4 p5
    clear g1 hP cP
    go_wp2
    go_ret2
    exact ⟨by rw [E.out.1, E.out.2]; rfl, by repeat (first | with_reducible exact G1.out | with_reducible refine Grown.alloc ?_ _ _ | with_reducible refine Grown.setCell ?_ (Nat.le_refl _) _ | with_reducible refine Grown.setCell ?_ (Nat.le_succ _) _)⟩
  · have E := hid (show readV ⟨sec, min, hour, day, halt, carry⟩ 9 = min ∧ regE 9 = 0 from ⟨rfl, rfl⟩)
    go_enter Tryz.func27, Tryz.ntmps27
    go_wp2_with fail
    refine (CN.out _).mono ?_
    rintro e u1 ⟨rfl, g1⟩
    obtain ⟨hP, fP⟩ := mine (alloc1 w _ _) (Kept.of g1) (has_alloc w #[.int .u8 c.sec, .int .u8 c.min, .int .u8 c.hour, .int .u16 c.day, .bool c.halt, .bool c.carry] 35) (Nat.le_refl _)
    have G1 := hid (grown_trans (alloc1 w _ _) g1)
    obtain ⟨zP, cP⟩ := id hP
    have p0 := cP 0
    have p1 := cP 1
    have p2 := cP 2
    have p3 := cP 3
    have p4 := cP 4
    have p5 := cP 5
    simp at p0 p1 p2 p3 p4 p5
    clear g1 hP cP
    go_wp2
    go_ret2
    exact ⟨by rw [E.out.1, E.out.2]; rfl, by repeat (first | with_reducible exact G1.out | with_reducible refine Grown.alloc ?_ _ _ | with_reducible refine Grown.setCell ?_ (Nat.le_refl _) _ | with_reducible refine Grown.setCell ?_ (Nat.le_succ _) _)⟩
  · have E := hid (show readV ⟨sec, min, hour, day, halt, carry⟩ 10 = hour ∧ regE 10 = 0 from ⟨rfl, rfl⟩)
    go_enter Tryz.func27, Tryz.ntmps27
    go_wp2_with fail
    refine (CN.out _).mono ?_
    rintro e u1 ⟨rfl, g1⟩
    obtain ⟨hP, fP⟩ := mine (alloc1 w _ _) (Kept.of g1) (has_alloc w #[.int .u8 c.sec, .int .u8 c.min, .int .u8 c.hour, .int .u16 c.day, .bool c.halt, .bool c.carry] 35) (Nat.le_refl _)
    have G1 := hid (grown_trans (alloc1 w _ _) g1)
    obtain ⟨zP, cP⟩ := id hP
    have p0 := cP 0
    have p1 := cP 1
    have p2 := cP 2
    have p3 := cP 3
    have p4 := cP 4
    have p5 := cP 5
    simp at p0 p1 p2 p3 p4 p5
    clear g1 hP cP
    go_wp2
    go_ret2
    exact ⟨by rw [E.out.1, E.out.2]; rfl, by repeat (first | with_reducible exact G1.out | with_reducible refine Grown.alloc ?_ _ _ | with_reducible refine Grown.setCell ?_ (Nat.le_refl _) _ | with_reducible refine Grown.setCell ?_ (Nat.le_succ _) _)⟩
  · have E := hid (show readV ⟨sec, min, hour, day, halt, carry⟩ 11 = day % 256 ∧ regE 11 = 0 from ⟨rfl, rfl⟩)
    go_enter Tryz.func27, Tryz.ntmps27
    go_wp2_with fail
    refine (CN.out _).mono ?_
    rintro e u1 ⟨rfl, g1⟩
    obtain ⟨hP, fP⟩ := mine (alloc1 w _ _) (Kept.of g1) (has_alloc w #[.int .u8 c.sec, .int .u8 c.min, .int .u8 c.hour, .int .u16 c.day, .bool c.halt, .bool c.carry] 35) (Nat.le_refl _)
    have G1 := hid (grown_trans (alloc1 w _ _) g1)
    obtain ⟨zP, cP⟩ := id hP
    have p0 := cP 0
    have p1 := cP 1
    have p2 := cP 2
    have p3 := cP 3
    have p4 := cP 4
    have p5 := cP 5
    simp at p0 p1 p2 p3 p4 p5
    clear g1 hP cP
    go_wp2
    go_ret2
    exact ⟨by rw [E.out.1, E.out.2]; rfl, by repeat (first | with_reducible exact G1.out | with_reducible refine Grown.alloc ?_ _ _ | with_reducible refine Grown.setCell ?_ (Nat.le_refl _) _ | with_reducible refine Grown.setCell ?_ (Nat.le_succ _) _)⟩
  · have E := hid (show regE 12 = 0 from rfl)
    generalize readV ⟨sec, min, hour, day, halt, carry⟩ 12 = RV at *
    go_enter Tryz.func27, Tryz.ntmps27
    go_wp2_with fail
    refine (CN.out _).mono ?_
    rintro e u1 ⟨rfl, g1⟩
    obtain ⟨hP, fP⟩ := mine (alloc1 w _ _) (Kept.of g1) (has_alloc w #[.int .u8 c.sec, .int .u8 c.min, .int .u8 c.hour, .int .u16 c.day, .bool c.halt, .bool c.carry] 35) (Nat.le_refl _)
    have G1 := hid (grown_trans (alloc1 w _ _) g1)
    obtain ⟨zP, cP⟩ := id hP
    have p0 := cP 0
    have p1 := cP 1
    have p2 := cP 2
    have p3 := cP 3
    have p4 := cP 4
    have p5 := cP 5
    simp at p0 p1 p2 p3 p4 p5
    clear g1 hP cP
    go_wp2_with fail
    refine (CM.out _).mono ?_
    rintro e u2 ⟨rfl, g2⟩
    have G2 := hid (grown_trans (show Grown w _ from by repeat (first | with_reducible exact G1.out | with_reducible refine Grown.alloc ?_ _ _ | with_reducible refine Grown.setCell ?_ (Nat.le_refl _) _ | with_reducible refine Grown.setCell ?_ (Nat.le_succ _) _)) g2)
    clear g2
    go_wp2
    go_ret2
    exact ⟨by rw [E.out]; rfl, G2.out⟩
  · obtain ⟨h1, h2, h3, h4, h5⟩ := id hr
    have b1 : (r == 8) = false := by simpa using h1
    have b2 : (r == 9) = false := by simpa using h2
    have b3 : (r == 10) = false := by simpa using h3
    have b4 : (r == 11) = false := by simpa using h4
    have b5 : (r == 12) = false := by simpa using h5
    have E := hid (NO.out hr)
    clear hr NO h1 h2 h3 h4 h5
    go_enter Tryz.func27, Tryz.ntmps27
    go_wp2_with fail
    refine (CN.out _).mono ?_
    rintro e u1 ⟨rfl, g1⟩
    obtain ⟨hP, fP⟩ := mine (alloc1 w _ _) (Kept.of g1) (has_alloc w #[.int .u8 c.sec, .int .u8 c.min, .int .u8 c.hour, .int .u16 c.day, .bool c.halt, .bool c.carry] 35) (Nat.le_refl _)
    have G1 := hid (grown_trans (alloc1 w _ _) g1)
    obtain ⟨zP, cP⟩ := id hP
    have p0 := cP 0
    have p1 := cP 1
    have p2 := cP 2
    have p3 := cP 3
    have p4 := cP 4
    have p5 := cP 5
    simp at p0 p1 p2 p3 p4 p5
    clear g1 hP cP
    go_wp2
    go_ret2
    exact ⟨by rw [E.out.1, E.out.2]; rfl, by repeat (first | with_reducible exact G1.out | with_reducible refine Grown.alloc ?_ _ _ | with_reducible refine Grown.setCell ?_ (Nat.le_refl _) _ | with_reducible refine Grown.setCell ?_ (Nat.le_succ _) _)⟩
theorem cread_any (c : Ck) (r : Int) (w : World) (I : CkIn c) : Calls Tryz.prog 27 #[ckV c, .int .i64 r] w fun e w' => e = .returned (.tuple #[.int .u8 (readC c r), .int .i64 (regE r)]) ∧ Kept w w' :=
  (gread_any c r w I).mono fun e w' h => ⟨h.1, Kept.of h.2⟩
theorem and_fin9 : ∀ b : Fin 256, bits .and .u8 (b.val : Int) 1 = (b.val : Int) % 2 ∧ (bits .and .u8 (b.val : Int) 64 != 0) = ((b.val : Int) / 64 % 2 == 1) ∧ (bits .and .u8 (b.val : Int) 128 != 0) = decide (128 ≤ (b.val : Int)) := by decide +kernel
theorem and9 (v : Int) (v0 : 0 ≤ v) (v1 : v ≤ 255) : bits .and .u8 v 1 = v % 2 ∧ (bits .and .u8 v 64 != 0) = (v / 64 % 2 == 1) ∧ (bits .and .u8 v 128 != 0) = decide (128 ≤ v) :=
  fin8 (p := fun b => bits .and .u8 b 1 = b % 2 ∧ (bits .and .u8 b 64 != 0) = (b / 64 % 2 == 1) ∧ (bits .and .u8 b 128 != 0) = decide (128 ≤ b)) and_fin9 v v0 v1
theorem write_norm8 (c : Ck) (v : Int) (I : CkIn c) (v0 : 0 ≤ v) (v1 : v ≤ 255) : normC ⟨v, c.min, c.hour, c.day, c.halt, c.carry⟩ = writeC c 8 v := by
  obtain ⟨a, b, d, e, f, g, i, j⟩ := I
  show (⟨_, _, _, _, _, _⟩ : Ck) = ⟨_, _, _, _, _, _⟩
  simp only [Ck.mk.injEq, normC, and_true, true_and]
theorem write_norm9 (c : Ck) (v : Int) (I : CkIn c) (v0 : 0 ≤ v) (v1 : v ≤ 255) : normC ⟨c.sec, v, c.hour, c.day, c.halt, c.carry⟩ = writeC c 9 v := by
  obtain ⟨a, b, d, e, f, g, i, j⟩ := I
  show (⟨_, _, _, _, _, _⟩ : Ck) = ⟨_, _, _, _, _, _⟩
  simp only [Ck.mk.injEq, normC, and_true, true_and]
theorem write_norm10 (c : Ck) (v : Int) (I : CkIn c) (v0 : 0 ≤ v) (v1 : v ≤ 255) : normC ⟨c.sec, c.min, v, c.day, c.halt, c.carry⟩ = writeC c 10 v := by
  obtain ⟨a, b, d, e, f, g, i, j⟩ := I
  show (⟨_, _, _, _, _, _⟩ : Ck) = ⟨_, _, _, _, _, _⟩
  simp only [Ck.mk.injEq, normC, and_true, true_and]
theorem write_norm11 (c : Ck) (v : Int) (I : CkIn c) (v0 : 0 ≤ v) (v1 : v ≤ 255) : normC ⟨c.sec, c.min, c.hour, c.day / 256 * 256 + v, c.halt, c.carry⟩ = writeC c 11 v := by
  obtain ⟨a, b, d, e, f, g, i, j⟩ := I
  show (⟨_, _, _, _, _, _⟩ : Ck) = ⟨_, _, _, _, _, _⟩
  simp only [Ck.mk.injEq, normC, and_true, true_and]
  omega
theorem write_norm12 (c : Ck) (v : Int) (I : CkIn c) (v0 : 0 ≤ v) (v1 : v ≤ 255) : normC ⟨c.sec, c.min, c.hour, c.day % 256 + 256 * (v % 2), bits .and .u8 v 64 != 0, bits .and .u8 v 128 != 0⟩ = writeC c 12 v := by
  obtain ⟨a, b, d, e, f, g, i, j⟩ := I
  obtain ⟨_, h2, h3⟩ := and9 v v0 v1
  rw [h2, h3]
  show (⟨_, _, _, _, _, _⟩ : Ck) = ⟨_, _, _, _, _, _⟩
  simp only [Ck.mk.injEq, normC, and_true, true_and]
  omega
set_option maxRecDepth 100000 in
set_option maxHeartbeats 8000000 in
theorem gwrite_any (c : Ck) (r v : Int) (w : World) (I : CkIn c) (v0 : 0 ≤ v) (v1 : v ≤ 255) : Calls Tryz.prog 64 #[ckV c, .int .i64 r, .int .u8 v] w fun e w' => e = .returned (.tuple #[ckV (writeC c r v), .int .i64 (regE r)]) ∧ Grown w w' := by
  have NO := hid (fun h => (⟨writeC_no c r v h, (readC_no c r h).2⟩ : writeC c r v = ck0 ∧ regE r = 7))
  have I' := hid I
  obtain ⟨a, b, d, e, f, g, i, j⟩ := I
  have m1 := (and9 v v0 v1).1
  have t1 : Int.tmod c.day 256 = c.day % 256 := Int.tmod_eq_emod_of_nonneg i
  have t2 : Int.tdiv c.day 256 = c.day / 256 := Int.tdiv_eq_ediv_of_nonneg i
  have w1 : IntKind.u16.wrap (c.day % 256) = c.day % 256 := by rw [IntKind.wrap_u16]; omega
  have w3 : IntKind.u16.wrap (c.day / 256) = c.day / 256 := by rw [IntKind.wrap_u16]; omega
  have w4 : IntKind.u16.wrap (c.day / 256 * 256) = c.day / 256 * 256 := by rw [IntKind.wrap_u16]; omega
  have w5 : IntKind.u16.wrap v = v := by rw [IntKind.wrap_u16]; omega
  have w6 : IntKind.u16.wrap (c.day / 256 * 256 + v) = c.day / 256 * 256 + v := by rw [IntKind.wrap_u16]; omega
  have wa : IntKind.u16.wrap (v % 2) = v % 2 := by rw [IntKind.wrap_u16]; omega
  have wb : IntKind.u16.wrap (256 * (v % 2)) = 256 * (v % 2) := by rw [IntKind.wrap_u16]; omega
  have wc : IntKind.u16.wrap (c.day % 256 + 256 * (v % 2)) = c.day % 256 + 256 * (v % 2) := by rw [IntKind.wrap_u16]; omega
  have z4 : c.day / 256 * 256 % 65536 = c.day / 256 * 256 := by omega
  have z6 : (c.day / 256 * 256 + v) % 65536 = c.day / 256 * 256 + v := by omega
  have zb : 256 * (v % 2) % 65536 = 256 * (v % 2) := by omega
  have zc : (c.day % 256 + 256 * (v % 2)) % 65536 = c.day % 256 + 256 * (v % 2) := by omega
  rcases regs_of r with rfl | rfl | rfl | rfl | rfl | hr
  · have CN := hid (fun u => gnorm_any ⟨v, c.min, c.hour, c.day, c.halt, c.carry⟩ u ⟨v0, v1, d, e, f, g, i, j⟩)
    rw [write_norm8 c v I'.out v0 v1] at CN
    have E := hid (show regE 8 = 0 from rfl)
    generalize writeC c 8 v = R at *
    clear NO
    go_enter Tryz.func64, Tryz.ntmps64
    go_wp2_with fail
    refine (CN.out _).mono ?_
    rintro e u1 ⟨rfl, g1⟩
    obtain ⟨hR, fR⟩ := mine ((alloc1 w _ _).alloc _ _) (Kept.of g1) (has_alloc (w.alloc (.cells #[.int .u8 (v), .int .u8 (c.min), .int .u8 (c.hour), .int .u16 (c.day), .bool (c.halt), .bool (c.carry)] 35)) #[.int .u8 0, .int .u8 0, .int .u8 0, .int .u16 0, .bool false, .bool false] 35) (by simp)
    simp only [World.size_alloc] at hR fR
    have G1 := hid (grown_trans ((alloc1 w _ _).alloc _ _) g1)
    obtain ⟨zR, cR⟩ := id hR
    have r0 := cR 0
    have r1 := cR 1
    have r2 := cR 2
    have r3 := cR 3
    have r4 := cR 4
    have r5 := cR 5
    simp at r0 r1 r2 r3 r4 r5
    clear g1 hR cR
    go_wp2
    exact bodyPost_ret (v := .tuple #[ckV R, .int .i64 0]) (by simp [results, Tryz.results64, go_sem, r0, r1, r2, r3, r4, r5, zR]) rfl ⟨by rw [E.out], by repeat (first | with_reducible exact G1.out | with_reducible refine Grown.alloc ?_ _ _ | with_reducible refine Grown.setCell ?_ (Nat.le_refl _) _ | with_reducible refine Grown.setCell ?_ (Nat.le_succ _) _)⟩
  · have CN := hid (fun u => gnorm_any ⟨c.sec, v, c.hour, c.day, c.halt, c.carry⟩ u ⟨a, b, v0, v1, f, g, i, j⟩)
    rw [write_norm9 c v I'.out v0 v1] at CN
    have E := hid (show regE 9 = 0 from rfl)
    generalize writeC c 9 v = R at *
    clear NO
    go_enter Tryz.func64, Tryz.ntmps64
    go_wp2_with fail
    refine (CN.out _).mono ?_
    rintro e u1 ⟨rfl, g1⟩
    obtain ⟨hR, fR⟩ := mine ((alloc1 w _ _).alloc _ _) (Kept.of g1) (has_alloc (w.alloc (.cells #[.int .u8 (c.sec), .int .u8 (v), .int .u8 (c.hour), .int .u16 (c.day), .bool (c.halt), .bool (c.carry)] 35)) #[.int .u8 0, .int .u8 0, .int .u8 0, .int .u16 0, .bool false, .bool false] 35) (by simp)
    simp only [World.size_alloc] at hR fR
    have G1 := hid (grown_trans ((alloc1 w _ _).alloc _ _) g1)
    obtain ⟨zR, cR⟩ := id hR
    have r0 := cR 0
    have r1 := cR 1
    have r2 := cR 2
    have r3 := cR 3
    have r4 := cR 4
    have r5 := cR 5
    simp at r0 r1 r2 r3 r4 r5
    clear g1 hR cR
    go_wp2
    exact bodyPost_ret (v := .tuple #[ckV R, .int .i64 0]) (by simp [results, Tryz.results64, go_sem, r0, r1, r2, r3, r4, r5, zR]) rfl ⟨by rw [E.out], by repeat (first | with_reducible exact G1.out | with_reducible refine Grown.alloc ?_ _ _ | with_reducible refine Grown.setCell ?_ (Nat.le_refl _) _ | with_reducible refine Grown.setCell ?_ (Nat.le_succ _) _)⟩
  · have CN := hid (fun u => gnorm_any ⟨c.sec, c.min, v, c.day, c.halt, c.carry⟩ u ⟨a, b, d, e, v0, v1, i, j⟩)
    rw [write_norm10 c v I'.out v0 v1] at CN
    have E := hid (show regE 10 = 0 from rfl)
    generalize writeC c 10 v = R at *
    clear NO
    go_enter Tryz.func64, Tryz.ntmps64
    go_wp2_with fail
    refine (CN.out _).mono ?_
    rintro e u1 ⟨rfl, g1⟩
    obtain ⟨hR, fR⟩ := mine ((alloc1 w _ _).alloc _ _) (Kept.of g1) (has_alloc (w.alloc (.cells #[.int .u8 (c.sec), .int .u8 (c.min), .int .u8 (v), .int .u16 (c.day), .bool (c.halt), .bool (c.carry)] 35)) #[.int .u8 0, .int .u8 0, .int .u8 0, .int .u16 0, .bool false, .bool false] 35) (by simp)
    simp only [World.size_alloc] at hR fR
    have G1 := hid (grown_trans ((alloc1 w _ _).alloc _ _) g1)
    obtain ⟨zR, cR⟩ := id hR
    have r0 := cR 0
    have r1 := cR 1
    have r2 := cR 2
    have r3 := cR 3
    have r4 := cR 4
    have r5 := cR 5
    simp at r0 r1 r2 r3 r4 r5
    clear g1 hR cR
    go_wp2
    exact bodyPost_ret (v := .tuple #[ckV R, .int .i64 0]) (by simp [results, Tryz.results64, go_sem, r0, r1, r2, r3, r4, r5, zR]) rfl ⟨by rw [E.out], by repeat (first | with_reducible exact G1.out | with_reducible refine Grown.alloc ?_ _ _ | with_reducible refine Grown.setCell ?_ (Nat.le_refl _) _ | with_reducible refine Grown.setCell ?_ (Nat.le_succ _) _)⟩
  · have CN := hid (fun u => gnorm_any ⟨c.sec, c.min, c.hour, c.day / 256 * 256 + v, c.halt, c.carry⟩ u ⟨a, b, d, e, f, g, by show 0 ≤ c.day / 256 * 256 + v; omega, by show c.day / 256 * 256 + v ≤ 65535; omega⟩)
    rw [write_norm11 c v I'.out v0 v1] at CN
    have E := hid (show regE 11 = 0 from rfl)
    generalize writeC c 11 v = R at *
    clear NO
    go_enter Tryz.func64, Tryz.ntmps64
    go_wp2_with fail
    refine (CN.out _).mono ?_
    rintro e u1 ⟨rfl, g1⟩
    obtain ⟨hR, fR⟩ := mine ((alloc1 w _ _).alloc _ _) (Kept.of g1) (has_alloc (w.alloc (.cells #[.int .u8 (c.sec), .int .u8 (c.min), .int .u8 (c.hour), .int .u16 (c.day / 256 * 256 + v), .bool (c.halt), .bool (c.carry)] 35)) #[.int .u8 0, .int .u8 0, .int .u8 0, .int .u16 0, .bool false, .bool false] 35) (by simp)
    simp only [World.size_alloc] at hR fR
    have G1 := hid (grown_trans ((alloc1 w _ _).alloc _ _) g1)
    obtain ⟨zR, cR⟩ := id hR
    have r0 := cR 0
    have r1 := cR 1
    have r2 := cR 2
    have r3 := cR 3
    have r4 := cR 4
    have r5 := cR 5
    simp at r0 r1 r2 r3 r4 r5
    clear g1 hR cR
    go_wp2
    exact bodyPost_ret (v := .tuple #[ckV R, .int .i64 0]) (by simp [results, Tryz.results64, go_sem, r0, r1, r2, r3, r4, r5, zR]) rfl ⟨by rw [E.out], by repeat (first | with_reducible exact G1.out | with_reducible refine Grown.alloc ?_ _ _ | with_reducible refine Grown.setCell ?_ (Nat.le_refl _) _ | with_reducible refine Grown.setCell ?_ (Nat.le_succ _) _)⟩
  · have CN := hid (fun u => gnorm_any ⟨c.sec, c.min, c.hour, c.day % 256 + 256 * (v % 2), bits .and .u8 v 64 != 0, bits .and .u8 v 128 != 0⟩ u ⟨a, b, d, e, f, g, by show 0 ≤ c.day % 256 + 256 * (v % 2); omega, by show c.day % 256 + 256 * (v % 2) ≤ 65535; omega⟩)
    rw [write_norm12 c v I'.out v0 v1] at CN
    have E := hid (show regE 12 = 0 from rfl)
    generalize writeC c 12 v = R at *
    clear NO
    go_enter Tryz.func64, Tryz.ntmps64
    go_wp2_with fail
    refine (CN.out _).mono ?_
    rintro e u1 ⟨rfl, g1⟩
    obtain ⟨hR, fR⟩ := mine ((alloc1 w _ _).alloc _ _) (Kept.of g1) (has_alloc (w.alloc (.cells #[.int .u8 (c.sec), .int .u8 (c.min), .int .u8 (c.hour), .int .u16 (c.day % 256 + 256 * (v % 2)), .bool (bits .and .u8 v 64 != 0), .bool (bits .and .u8 v 128 != 0)] 35)) #[.int .u8 0, .int .u8 0, .int .u8 0, .int .u16 0, .bool false, .bool false] 35) (by simp)
    simp only [World.size_alloc] at hR fR
    have G1 := hid (grown_trans ((alloc1 w _ _).alloc _ _) g1)
    obtain ⟨zR, cR⟩ := id hR
    have r0 := cR 0
    have r1 := cR 1
    have r2 := cR 2
    have r3 := cR 3
    have r4 := cR 4
    have r5 := cR 5
    simp at r0 r1 r2 r3 r4 r5
    clear g1 hR cR
    go_wp2
    exact bodyPost_ret (v := .tuple #[ckV R, .int .i64 0]) (by simp [results, Tryz.results64, go_sem, r0, r1, r2, r3, r4, r5, zR]) rfl ⟨by rw [E.out], by repeat (first | with_reducible exact G1.out | with_reducible refine Grown.alloc ?_ _ _ | with_reducible refine Grown.setCell ?_ (Nat.le_refl _) _ | with_reducible refine Grown.setCell ?_ (Nat.le_succ _) _)⟩
  · obtain ⟨h1, h2, h3, h4, h5⟩ := id hr
    have b1 : (r == 8) = false := by simpa using h1
    have b2 : (r == 9) = false := by simpa using h2
    have b3 : (r == 10) = false := by simpa using h3
    have b4 : (r == 11) = false := by simpa using h4
    have b5 : (r == 12) = false := by simpa using h5
    have E := hid (NO.out hr)
    clear hr NO h1 h2 h3 h4 h5
    go_enter Tryz.func64, Tryz.ntmps64
    go_wp2
    exact bodyPost_ret (v := .tuple #[ckV ck0, .int .i64 7]) (by simp [results, Tryz.results64, go_sem, ck0]) rfl ⟨by rw [E.out.1, E.out.2], by repeat (first | with_reducible exact Grown.refl _ | with_reducible refine Grown.alloc ?_ _ _ | with_reducible refine Grown.setCell ?_ (Nat.le_succ _) _)⟩
theorem cwrite_any (c : Ck) (r v : Int) (w : World) (I : CkIn c) (v0 : 0 ≤ v) (v1 : v ≤ 255) : Calls Tryz.prog 64 #[ckV c, .int .i64 r, .int .u8 v] w fun e w' => e = .returned (.tuple #[ckV (writeC c r v), .int .i64 (regE r)]) ∧ Kept w w' :=
  (gwrite_any c r v w I v0 v1).mono fun e w' h => ⟨h.1, Kept.of h.2⟩
end Go.Proofs.YtfmddnekooojkaaGreatDoor
