/- What the document's answers of layer 9 come to: Write, Run. -/
import Derived.Test.YtpnidlibgpbjgaaRck9b
namespace Go.Proofs.Ytpnidlibgpbjgaa
open Go.RowKit
set_option linter.unusedVariables false
set_option linter.unusedSimpArgs false

set_option maxRecDepth 100000 in
set_option maxHeartbeats 8000000 in
theorem rwrite_any (c : Ck) (r v : Int) (w : World) (I : CkIn c) (v0 : 0 ≤ v) (v1 : v ≤ 255) : Calls Try.prog 19 #[ckV c, .int .i64 r, .int .u8 v] w fun e w' => e = .returned (.tuple #[ckV (writeC c r v), .int .i64 (regE r)]) ∧ Grown w w' := by
  have CN := hid (fun u => rnorm_any c u I)
  have O := norm_ok I
  have NO := hid (fun h => (⟨writeC_no c r v h, (readC_no c r h).2⟩ : writeC c r v = ck0 ∧ regE r = 7))
  unfold writeC at *
  obtain ⟨N, hN⟩ : ∃ v, normC c = v := ⟨_, rfl⟩
  rw [hN] at O CN NO ⊢
  clear hN I
  obtain ⟨sec, min, hour, day, halt, carry⟩ := N
  obtain ⟨a, b, d, e, f, g, i, j⟩ := O
  simp only at a b d e f g i j
  have t1 : Int.tmod day 256 = day % 256 := Int.tmod_eq_emod_of_nonneg i
  have t2 : Int.tdiv day 256 = day / 256 := Int.tdiv_eq_ediv_of_nonneg i
  have t3 : Int.tmod v 64 = v % 64 := Int.tmod_eq_emod_of_nonneg v0
  have t4 : Int.tmod v 32 = v % 32 := Int.tmod_eq_emod_of_nonneg v0
  have t5 : Int.tmod v 2 = v % 2 := Int.tmod_eq_emod_of_nonneg v0
  have t6 : Int.tdiv v 64 = v / 64 := Int.tdiv_eq_ediv_of_nonneg v0
  have t7 : Int.tmod (v / 64) 2 = v / 64 % 2 := Int.tmod_eq_emod_of_nonneg (by omega)
  have w1 : IntKind.u16.wrap (day % 256) = day % 256 := by rw [IntKind.wrap_u16]; omega
  have w3 : IntKind.u16.wrap (day / 256) = day / 256 := by rw [IntKind.wrap_u16]; omega
  have w4 : IntKind.u16.wrap (day / 256 * 256) = day / 256 * 256 := by rw [IntKind.wrap_u16]; omega
  have w5 : IntKind.u16.wrap v = v := by rw [IntKind.wrap_u16]; omega
  have w6 : IntKind.u16.wrap (day / 256 * 256 + v) = day / 256 * 256 + v := by rw [IntKind.wrap_u16]; omega
  have w7 : IntKind.u8.wrap (v % 64) = v % 64 := by rw [IntKind.wrap_u8]; omega
  have w8 : IntKind.u8.wrap (v % 32) = v % 32 := by rw [IntKind.wrap_u8]; omega
  have w9 : IntKind.u8.wrap (v % 2) = v % 2 := by rw [IntKind.wrap_u8]; omega
  have wa : IntKind.u16.wrap (v % 2) = v % 2 := by rw [IntKind.wrap_u16]; omega
  have wb : IntKind.u16.wrap (v % 2 * 256) = v % 2 * 256 := by rw [IntKind.wrap_u16]; omega
  have wc : IntKind.u16.wrap (day % 256 + v % 2 * 256) = day % 256 + v % 2 * 256 := by rw [IntKind.wrap_u16]; omega
  have wd : IntKind.u8.wrap (v / 64) = v / 64 := by rw [IntKind.wrap_u8]; omega
  have we : IntKind.u8.wrap (v / 64 % 2) = v / 64 % 2 := by rw [IntKind.wrap_u8]; omega
  have z4 : day / 256 * 256 % 65536 = day / 256 * 256 := by omega
  have z6 : (day / 256 * 256 + v) % 65536 = day / 256 * 256 + v := by omega
  have zb : v % 2 * 256 % 65536 = v % 2 * 256 := by omega
  have zc : (day % 256 + v % 2 * 256) % 65536 = day % 256 + v % 2 * 256 := by omega
  rcases regs_of r with rfl | rfl | rfl | rfl | rfl | hr
  · have E := hid (show writeN ⟨sec, min, hour, day, halt, carry⟩ 8 v = ⟨v % 64, min, hour, day, halt, carry⟩ ∧ regE 8 = 0 from ⟨rfl, rfl⟩)
    go_enter Try.func19, Try.ntmps19
    go_wp2_with fail
    refine (CN.out _).mono ?_
    rintro e u1 ⟨rfl, g1⟩
    obtain ⟨hR, fR⟩ := mine ((alloc1 w _ _).alloc _ _) (Kept.of g1) (has_alloc (w.alloc (.cells #[.int .u8 c.sec, .int .u8 c.min, .int .u8 c.hour, .int .u16 c.day, .bool c.halt, .bool c.carry] 24)) #[.int .u8 0, .int .u8 0, .int .u8 0, .int .u16 0, .bool false, .bool false] 24) (by simp)
    simp only [World.size_alloc] at hR fR
    have G1 := hid (grown_trans ((alloc1 w _ _).alloc _ _) g1)
    obtain ⟨zR, cR⟩ := id hR
    have r0 := cR 0
    have r1 := cR 1
    have r2 := cR 2
    have r3 := cR 3
    have r4 := cR 4
    have r5 := cR 5
    simp at r0 r1 r2 r3 r4 r5
    have y1 : w.heap.size + 1 ≠ u1.heap.size := by omega
    have y2 : w.heap.size + 1 < u1.heap.size + 1 := by omega
    clear g1 hR cR
    go_wp2
    exact bodyPost_ret (v := .tuple #[.agg #[.int .u8 (v % 64), .int .u8 (min), .int .u8 (hour), .int .u16 (day), .bool halt, .bool carry], .int .i64 0]) (by simp [results, Try.results19, go_sem, r0, r1, r2, r3, r4, r5, zR, y1, y2]) rfl ⟨by rw [E.out.1, E.out.2], by repeat (first | with_reducible exact G1.out | with_reducible refine Grown.alloc ?_ _ _ | with_reducible refine Grown.setCell ?_ (Nat.le_succ _) _)⟩
  · have E := hid (show writeN ⟨sec, min, hour, day, halt, carry⟩ 9 v = ⟨sec, v % 64, hour, day, halt, carry⟩ ∧ regE 9 = 0 from ⟨rfl, rfl⟩)
    go_enter Try.func19, Try.ntmps19
    go_wp2_with fail
    refine (CN.out _).mono ?_
    rintro e u1 ⟨rfl, g1⟩
    obtain ⟨hR, fR⟩ := mine ((alloc1 w _ _).alloc _ _) (Kept.of g1) (has_alloc (w.alloc (.cells #[.int .u8 c.sec, .int .u8 c.min, .int .u8 c.hour, .int .u16 c.day, .bool c.halt, .bool c.carry] 24)) #[.int .u8 0, .int .u8 0, .int .u8 0, .int .u16 0, .bool false, .bool false] 24) (by simp)
    simp only [World.size_alloc] at hR fR
    have G1 := hid (grown_trans ((alloc1 w _ _).alloc _ _) g1)
    obtain ⟨zR, cR⟩ := id hR
    have r0 := cR 0
    have r1 := cR 1
    have r2 := cR 2
    have r3 := cR 3
    have r4 := cR 4
    have r5 := cR 5
    simp at r0 r1 r2 r3 r4 r5
    have y1 : w.heap.size + 1 ≠ u1.heap.size := by omega
    have y2 : w.heap.size + 1 < u1.heap.size + 1 := by omega
    clear g1 hR cR
    go_wp2
    exact bodyPost_ret (v := .tuple #[.agg #[.int .u8 (sec), .int .u8 (v % 64), .int .u8 (hour), .int .u16 (day), .bool halt, .bool carry], .int .i64 0]) (by simp [results, Try.results19, go_sem, r0, r1, r2, r3, r4, r5, zR, y1, y2]) rfl ⟨by rw [E.out.1, E.out.2], by repeat (first | with_reducible exact G1.out | with_reducible refine Grown.alloc ?_ _ _ | with_reducible refine Grown.setCell ?_ (Nat.le_succ _) _)⟩
  · have E := hid (show writeN ⟨sec, min, hour, day, halt, carry⟩ 10 v = ⟨sec, min, v % 32, day, halt, carry⟩ ∧ regE 10 = 0 from ⟨rfl, rfl⟩)
    go_enter Try.func19, Try.ntmps19
    go_wp2_with fail
    refine (CN.out _).mono ?_
    rintro e u1 ⟨rfl, g1⟩
    obtain ⟨hR, fR⟩ := mine ((alloc1 w _ _).alloc _ _) (Kept.of g1) (has_alloc (w.alloc (.cells #[.int .u8 c.sec, .int .u8 c.min, .int .u8 c.hour, .int .u16 c.day, .bool c.halt, .bool c.carry] 24)) #[.int .u8 0, .int .u8 0, .int .u8 0, .int .u16 0, .bool false, .bool false] 24) (by simp)
    simp only [World.size_alloc] at hR fR
    have G1 := hid (grown_trans ((alloc1 w _ _).alloc _ _) g1)
    obtain ⟨zR, cR⟩ := id hR
    have r0 := cR 0
    have r1 := cR 1
    have r2 := cR 2
    have r3 := cR 3
    have r4 := cR 4
    have r5 := cR 5
    simp at r0 r1 r2 r3 r4 r5
    have y1 : w.heap.size + 1 ≠ u1.heap.size := by omega
    have y2 : w.heap.size + 1 < u1.heap.size + 1 := by omega
    clear g1 hR cR
    go_wp2
    exact bodyPost_ret (v := .tuple #[.agg #[.int .u8 (sec), .int .u8 (min), .int .u8 (v % 32), .int .u16 (day), .bool halt, .bool carry], .int .i64 0]) (by simp [results, Try.results19, go_sem, r0, r1, r2, r3, r4, r5, zR, y1, y2]) rfl ⟨by rw [E.out.1, E.out.2], by repeat (first | with_reducible exact G1.out | with_reducible refine Grown.alloc ?_ _ _ | with_reducible refine Grown.setCell ?_ (Nat.le_succ _) _)⟩
  · have E := hid (show writeN ⟨sec, min, hour, day, halt, carry⟩ 11 v = ⟨sec, min, hour, day / 256 * 256 + v, halt, carry⟩ ∧ regE 11 = 0 from ⟨rfl, rfl⟩)
    go_enter Try.func19, Try.ntmps19
    go_wp2_with fail
    refine (CN.out _).mono ?_
    rintro e u1 ⟨rfl, g1⟩
    obtain ⟨hR, fR⟩ := mine ((alloc1 w _ _).alloc _ _) (Kept.of g1) (has_alloc (w.alloc (.cells #[.int .u8 c.sec, .int .u8 c.min, .int .u8 c.hour, .int .u16 c.day, .bool c.halt, .bool c.carry] 24)) #[.int .u8 0, .int .u8 0, .int .u8 0, .int .u16 0, .bool false, .bool false] 24) (by simp)
    simp only [World.size_alloc] at hR fR
    have G1 := hid (grown_trans ((alloc1 w _ _).alloc _ _) g1)
    obtain ⟨zR, cR⟩ := id hR
    have r0 := cR 0
    have r1 := cR 1
    have r2 := cR 2
    have r3 := cR 3
    have r4 := cR 4
    have r5 := cR 5
    simp at r0 r1 r2 r3 r4 r5
    have y1 : w.heap.size + 1 ≠ u1.heap.size := by omega
    have y2 : w.heap.size + 1 < u1.heap.size + 1 := by omega
    clear g1 hR cR
    go_wp2
    exact bodyPost_ret (v := .tuple #[.agg #[.int .u8 (sec), .int .u8 (min), .int .u8 (hour), .int .u16 (day / 256 * 256 + v), .bool halt, .bool carry], .int .i64 0]) (by simp [results, Try.results19, go_sem, r0, r1, r2, r3, r4, r5, zR, y1, y2]) rfl ⟨by rw [E.out.1, E.out.2], by repeat (first | with_reducible exact G1.out | with_reducible refine Grown.alloc ?_ _ _ | with_reducible refine Grown.setCell ?_ (Nat.le_succ _) _)⟩
  · have E := hid (show writeN ⟨sec, min, hour, day, halt, carry⟩ 12 v = ⟨sec, min, hour, day % 256 + v % 2 * 256, (v / 64 % 2 == 1), (decide (128 ≤ v))⟩ ∧ regE 12 = 0 from ⟨rfl, rfl⟩)
    go_enter Try.func19, Try.ntmps19
    go_wp2_with fail
    refine (CN.out _).mono ?_
    rintro e u1 ⟨rfl, g1⟩
    obtain ⟨hR, fR⟩ := mine ((alloc1 w _ _).alloc _ _) (Kept.of g1) (has_alloc (w.alloc (.cells #[.int .u8 c.sec, .int .u8 c.min, .int .u8 c.hour, .int .u16 c.day, .bool c.halt, .bool c.carry] 24)) #[.int .u8 0, .int .u8 0, .int .u8 0, .int .u16 0, .bool false, .bool false] 24) (by simp)
    simp only [World.size_alloc] at hR fR
    have G1 := hid (grown_trans ((alloc1 w _ _).alloc _ _) g1)
    obtain ⟨zR, cR⟩ := id hR
    have r0 := cR 0
    have r1 := cR 1
    have r2 := cR 2
    have r3 := cR 3
    have r4 := cR 4
    have r5 := cR 5
    simp at r0 r1 r2 r3 r4 r5
    have y1 : w.heap.size + 1 ≠ u1.heap.size := by omega
    have y2 : w.heap.size + 1 < u1.heap.size + 1 := by omega
    clear g1 hR cR
    go_wp2
    exact bodyPost_ret (v := .tuple #[.agg #[.int .u8 (sec), .int .u8 (min), .int .u8 (hour), .int .u16 (day % 256 + v % 2 * 256), .bool (v / 64 % 2 == 1), .bool (decide (128 ≤ v))], .int .i64 0]) (by simp [results, Try.results19, go_sem, r0, r1, r2, r3, r4, r5, zR, y1, y2]) rfl ⟨by rw [E.out.1, E.out.2], by repeat (first | with_reducible exact G1.out | with_reducible refine Grown.alloc ?_ _ _ | with_reducible refine Grown.setCell ?_ (Nat.le_succ _) _)⟩
  · obtain ⟨h1, h2, h3, h4, h5⟩ := id hr
    have b1 : (r == 8) = false := by simpa using h1
    have b2 : (r == 9) = false := by simpa using h2
    have b3 : (r == 10) = false := by simpa using h3
    have b4 : (r == 11) = false := by simpa using h4
    have b5 : (r == 12) = false := by simpa using h5
    have E := hid (NO.out hr)
    clear hr NO h1 h2 h3 h4 h5
    go_enter Try.func19, Try.ntmps19
    go_wp2_with fail
    refine (CN.out _).mono ?_
    rintro e u1 ⟨rfl, g1⟩
    obtain ⟨hR, fR⟩ := mine ((alloc1 w _ _).alloc _ _) (Kept.of g1) (has_alloc (w.alloc (.cells #[.int .u8 c.sec, .int .u8 c.min, .int .u8 c.hour, .int .u16 c.day, .bool c.halt, .bool c.carry] 24)) #[.int .u8 0, .int .u8 0, .int .u8 0, .int .u16 0, .bool false, .bool false] 24) (by simp)
    simp only [World.size_alloc] at hR fR
    have G1 := hid (grown_trans ((alloc1 w _ _).alloc _ _) g1)
    obtain ⟨zR, cR⟩ := id hR
    have r0 := cR 0
    have r1 := cR 1
    have r2 := cR 2
    have r3 := cR 3
    have r4 := cR 4
    have r5 := cR 5
    simp at r0 r1 r2 r3 r4 r5
    have y1 : w.heap.size + 1 ≠ u1.heap.size := by omega
    have y2 : w.heap.size + 1 < u1.heap.size + 1 := by omega
    clear g1 hR cR
    go_wp2
    exact bodyPost_ret (v := .tuple #[.agg #[.int .u8 (0), .int .u8 (0), .int .u8 (0), .int .u16 (0), .bool false, .bool false], .int .i64 7]) (by simp [results, Try.results19, go_sem, r0, r1, r2, r3, r4, r5, zR, y1, y2]) rfl ⟨by rw [E.out.1, E.out.2]; rfl, by repeat (first | with_reducible exact G1.out | with_reducible refine Grown.alloc ?_ _ _ | with_reducible refine Grown.setCell ?_ (Nat.le_succ _) _)⟩
set_option maxRecDepth 100000 in
set_option maxHeartbeats 8000000 in
theorem rrun_any (c : Ck) (n : Int) (w : World) (I : CkIn c) : Calls Try.prog 15 #[ckV c, .int .i64 n] w fun e w' => e = .returned (.tuple #[ckV (runR c n), .int .i64 (runE n)]) ∧ Grown w w' := by
  by_cases hn : n < 0 ∨ 100000 < n
  · have E := hid (show runR c n = ck0 ∧ runE n = 1 from ⟨by unfold runR; rw [if_pos hn], by unfold runE; rw [if_pos hn]⟩)
    by_cases c1 : n < 0
    · have d1 : decide (n < 0) = true := decide_eq_true c1
      go_enter Try.func15, Try.ntmps15
      go_wp2
      exact bodyPost_ret (v := .tuple #[ckV ck0, .int .i64 1]) (by simp [results, Try.results15, go_sem, ck0]) rfl ⟨by rw [E.out.1, E.out.2], by repeat (first | with_reducible exact Grown.refl _ | with_reducible refine Grown.alloc ?_ _ _ | with_reducible refine Grown.setCell ?_ (Nat.le_succ _) _)⟩
    · have d1 : decide (n < 0) = false := decide_eq_false c1
      have c2 : 100000 < n := by omega
      have d2 : decide (100000 < n) = true := decide_eq_true c2
      go_enter Try.func15, Try.ntmps15
      go_wp2
      exact bodyPost_ret (v := .tuple #[ckV ck0, .int .i64 1]) (by simp [results, Try.results15, go_sem, ck0]) rfl ⟨by rw [E.out.1, E.out.2], by repeat (first | with_reducible exact Grown.refl _ | with_reducible refine Grown.alloc ?_ _ _ | with_reducible refine Grown.setCell ?_ (Nat.le_succ _) _)⟩
  · have c1 : ¬ n < 0 := by omega
    have c2 : ¬ 100000 < n := by omega
    have d1 : decide (n < 0) = false := decide_eq_false c1
    have d2 : decide (100000 < n) = false := decide_eq_false c2
    have E := hid (show runR c n = runN n.toNat (normC c) ∧ runE n = 0 from ⟨by unfold runR; rw [if_neg hn]; rfl, by unfold runE; rw [if_neg hn]⟩)
    have CN := hid (fun u => rnorm_any c u I)
    have CT := hid (fun k u => rtick_any (runN k (normC c)) u (run_ok (norm_ok I) k).inn)
    have TE := hid (fun k => tickC_ok (run_ok (norm_ok I) k))
    generalize normC c = N at *
    clear I hn
    go_enter Try.func15, Try.ntmps15
    go_wp2_with fail
    refine (CN.out _).mono ?_
    rintro e u1 ⟨rfl, g1⟩
    obtain ⟨hR, fR⟩ := mine ((alloc1 w _ _).alloc _ _) (Kept.of g1) (has_alloc (w.alloc (.cells #[.int .u8 c.sec, .int .u8 c.min, .int .u8 c.hour, .int .u16 c.day, .bool c.halt, .bool c.carry] 24)) #[.int .u8 0, .int .u8 0, .int .u8 0, .int .u16 0, .bool false, .bool false] 24) (by simp)
    simp only [World.size_alloc] at hR fR
    obtain ⟨hP, fP⟩ := mine ((alloc1 w _ _).alloc _ _) (Kept.of g1) (has_past (has_alloc w #[.int .u8 c.sec, .int .u8 c.min, .int .u8 c.hour, .int .u16 c.day, .bool c.halt, .bool c.carry] 24) (.cells #[.int .u8 0, .int .u8 0, .int .u8 0, .int .u16 0, .bool false, .bool false] 24)) (Nat.le_refl _)
    have G1 := hid (grown_trans ((alloc1 w _ _).alloc _ _) g1)
    obtain ⟨zP, cP⟩ := id hP
    have r0 := cP 0
    have r1 := cP 1
    have r2 := cP 2
    have r3 := cP 3
    have r4 := cP 4
    have r5 := cP 5
    simp at r0 r1 r2 r3 r4 r5
    have HR := hid hR
    have HP := hid hP
    have n1 : w.heap.size ≠ w.heap.size + 1 := by omega
    clear g1 hR cP hP
    go_wp2_with fail
    go_loopw [6] (fun i wr => ∃ j : Nat, (j : Int) ≤ n ∧ i = .int .i64 (j : Int) ∧ Has wr w.heap.size #[.int .u8 (runN j N).sec, .int .u8 (runN j N).min, .int .u8 (runN j N).hour, .int .u16 (runN j N).day, .bool (runN j N).halt, .bool (runN j N).carry] ∧ Has wr (w.heap.size + 1) #[.int .u8 0, .int .u8 0, .int .u8 0, .int .u16 0, .bool false, .bool false] ∧ Grown w wr) (fun i _ => n.toNat - (intOf i).toNat)
    case atStart => exact ⟨0, by omega, rfl, has_set6 HP.out _ _ _ _ _ _, (by repeat (first | with_reducible exact HR.out | with_reducible refine has_other ?_ n1 _)), (by repeat (first | with_reducible exact G1.out | with_reducible refine Grown.setCell ?_ (Nat.le_refl _) _))⟩
    case round =>
      obtain ⟨j, hj, rfl, hp, hr, hg⟩ := hrel
      have HPj := hid hp
      have HRj := hid hr
      have Gj := hid hg
      obtain ⟨zp, cp⟩ := id hp
      have p0 := cp 0
      have p1 := cp 1
      have p2 := cp 2
      have p3 := cp 3
      have p4 := cp 4
      have p5 := cp 5
      simp at p0 p1 p2 p3 p4 p5
      have fp := fun o => grown_froz hg (Nat.le_refl w.heap.size) o
      have fq := fun o => grown_froz hg (Nat.le_succ w.heap.size) o
      clear hp hr hg cp r0 r1 r2 r3 r4 r5 HR HP G1 zP fR fP
      by_cases hlt : (j : Int) < n
      · have T := TE.out j
        have C := hid (CT.out j)
        rw [T] at C
        have S1 := hid (show runN (j + 1) N = tickN (runN j N) from rfl)
        generalize runN j N = A at *
        generalize tickN A = B at *
        clear T
        go_wp2_with fail
        refine (C.out _).mono ?_
        rintro e u2 ⟨rfl, g2⟩
        have D1 := has_grown g2 HPj.out
        have D2 := hid (has_grown g2 HRj.out)
        have G2 := hid (grown_trans Gj.out g2)
        have f2 := fun o => grown_froz G2.out (Nat.le_refl w.heap.size) o
        obtain ⟨z2, c2⟩ := id D1
        have s0 := c2 0
        have s1 := c2 1
        have s2 := c2 2
        have s3 := c2 3
        have s4 := c2 4
        have s5 := c2 5
        simp at s0 s1 s2 s3 s4 s5
        have D1h := hid D1
        clear g2 D1 c2 p0 p1 p2 p3 p4 p5 zp fp fq
        go_wp2_with fail
        go_roundw
        case rel => exact ⟨j + 1, by omega, by go_num, by rw [S1.out]; exact has_set6 D1h.out _ _ _ _ _ _, (by repeat (first | with_reducible exact D2.out | with_reducible refine has_other ?_ n1 _)), (by repeat (first | with_reducible exact G2.out | with_reducible refine Grown.setCell ?_ (Nat.le_refl _) _))⟩
        case measure => first | omega | (simp; omega) | (simp [intOf]; omega)
      · have EN := hid (show n.toNat = j by omega)
        rw [EN.out] at E
        generalize runN j N = A at *
        obtain ⟨zr, cr⟩ := id HRj.out
        have s0 := cr 0
        have s1 := cr 1
        have s2 := cr 2
        have s3 := cr 3
        have s4 := cr 4
        have s5 := cr 5
        simp at s0 s1 s2 s3 s4 s5
        clear cr
        go_wp2
        exact bodyPost_ret (v := .tuple #[ckV A, .int .i64 0]) (by simp [results, Try.results15, go_sem, s0, s1, s2, s3, s4, s5, zr]) rfl ⟨by rw [E.out.1, E.out.2], by repeat (first | with_reducible exact Gj.out | with_reducible refine Grown.setCell ?_ (Nat.le_succ _) _)⟩
end Go.Proofs.Ytpnidlibgpbjgaa
