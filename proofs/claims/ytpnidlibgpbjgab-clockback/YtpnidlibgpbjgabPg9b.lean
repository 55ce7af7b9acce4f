/- The program's clock: more, Read, Write. -/
import Derived.Test.YtpnidlibgpbjgabPg9a
import Derived.Test.YtpnidlibgpbjgabRck9b
namespace Go.Proofs.Ytpnidlibgpbjgab
open Go.RowKit
set_option linter.unusedVariables false
set_option linter.unusedSimpArgs false

set_option maxRecDepth 100000 in
theorem gmore_any (sec min hour day : Int) (halt carry : Bool) (w : World) (O : CkOk ⟨sec, min, hour, day, halt, carry⟩) : Calls Try.prog 15 #[ckV ⟨sec, min, hour, day, halt, carry⟩] w fun e w' => e = .returned (.int .u8 (readV ⟨sec, min, hour, day, halt, carry⟩ 12)) ∧ Grown w w' := by
  have o1 : bits .or .u8 0 1 = 1 := by decide +kernel
  have o2 : bits .or .u8 0 64 = 64 := by decide +kernel
  have o3 : bits .or .u8 1 64 = 65 := by decide +kernel
  have o4 : bits .or .u8 0 128 = 128 := by decide +kernel
  have o5 : bits .or .u8 1 128 = 129 := by decide +kernel
  have o6 : bits .or .u8 64 128 = 192 := by decide +kernel
  have o7 : bits .or .u8 65 128 = 193 := by decide +kernel
  obtain ⟨a, b, d, e, f, g, i, j⟩ := O
  simp only at a b d e f g i j
  by_cases h : 255 < day
  · have dd : decide (255 < day) = true := decide_eq_true h
    have q : day / 256 = 1 := by omega
    cases halt <;> cases carry
    · have E := hid (show readV ⟨sec, min, hour, day, false, false⟩ 12 = 1 by show day / 256 + 0 + 0 = _; omega)
      clear q
      go_enter Try.func15, Try.ntmps15
      go_wp2
      go_ret
      exact ⟨by rw [E.out]; rfl, alloc1 _ _ _⟩
    · have E := hid (show readV ⟨sec, min, hour, day, false, true⟩ 12 = 129 by show day / 256 + 0 + 128 = _; omega)
      clear q
      go_enter Try.func15, Try.ntmps15
      go_wp2
      go_ret
      exact ⟨by rw [E.out]; rfl, alloc1 _ _ _⟩
    · have E := hid (show readV ⟨sec, min, hour, day, true, false⟩ 12 = 65 by show day / 256 + 64 + 0 = _; omega)
      clear q
      go_enter Try.func15, Try.ntmps15
      go_wp2
      go_ret
      exact ⟨by rw [E.out]; rfl, alloc1 _ _ _⟩
    · have E := hid (show readV ⟨sec, min, hour, day, true, true⟩ 12 = 193 by show day / 256 + 64 + 128 = _; omega)
      clear q
      go_enter Try.func15, Try.ntmps15
      go_wp2
      go_ret
      exact ⟨by rw [E.out]; rfl, alloc1 _ _ _⟩
  · have dd : decide (255 < day) = false := decide_eq_false h
    have q : day / 256 = 0 := by omega
    cases halt <;> cases carry
    · have E := hid (show readV ⟨sec, min, hour, day, false, false⟩ 12 = 0 by show day / 256 + 0 + 0 = _; omega)
      clear q
      go_enter Try.func15, Try.ntmps15
      go_wp2
      go_ret
      exact ⟨by rw [E.out]; rfl, alloc1 _ _ _⟩
    · have E := hid (show readV ⟨sec, min, hour, day, false, true⟩ 12 = 128 by show day / 256 + 0 + 128 = _; omega)
      clear q
      go_enter Try.func15, Try.ntmps15
      go_wp2
      go_ret
      exact ⟨by rw [E.out]; rfl, alloc1 _ _ _⟩
    · have E := hid (show readV ⟨sec, min, hour, day, true, false⟩ 12 = 64 by show day / 256 + 64 + 0 = _; omega)
      clear q
      go_enter Try.func15, Try.ntmps15
      go_wp2
      go_ret
      exact ⟨by rw [E.out]; rfl, alloc1 _ _ _⟩
    · have E := hid (show readV ⟨sec, min, hour, day, true, true⟩ 12 = 192 by show day / 256 + 64 + 128 = _; omega)
      clear q
      go_enter Try.func15, Try.ntmps15
      go_wp2
      go_ret
      exact ⟨by rw [E.out]; rfl, alloc1 _ _ _⟩
set_option maxRecDepth 100000 in
set_option maxHeartbeats 4000000 in
theorem gread_any (c : Ck) (r : Int) (w : World) (I : CkIn c) : Calls Try.prog 10 #[ckV c, .int .i64 r] w fun e w' => e = .returned (.tuple #[.int .u8 (readC c r), .int .i64 (regE r)]) ∧ Grown w w' := by
  have CN := hid (fun u => gnorm_any c u I)
  have O := norm_ok I
  have NO := hid (readC_no c r)
  unfold readC at *
  obtain ⟨N, hN⟩ : ∃ v, normC c = v := ⟨_, rfl⟩
  rw [hN] at O CN NO ⊢
  clear hN I
  obtain ⟨sec, min, hour, day, halt, carry⟩ := N
  have CM := hid (fun u => gmore_any sec min hour day halt carry u O)
  obtain ⟨a, b, d, e, f, g, i, j⟩ := O
  simp only at a b d e f g i j
  have t1 : Int.tmod day 256 = day % 256 := Int.tmod_eq_emod_of_nonneg i
  have w1 : IntKind.u16.wrap (day % 256) = day % 256 := by rw [IntKind.wrap_u16]; omega
  have w2 : IntKind.u8.wrap (day % 256) = day % 256 := by rw [IntKind.wrap_u8]; omega
  rcases regs_of r with rfl | rfl | rfl | rfl | rfl | hr
  · have E := hid (show readV ⟨sec, min, hour, day, halt, carry⟩ 8 = sec ∧ regE 8 = 0 from ⟨rfl, rfl⟩)
    go_enter Try.func10, Try.ntmps10
    go_wp2_with fail
    refine (CN.out _).mono ?_
    rintro e u1 ⟨rfl, g1⟩
    obtain ⟨hP, fP⟩ := mine (alloc1 w _ _) (Kept.of g1) (has_alloc w #[.int .u8 c.sec, .int .u8 c.min, .int .u8 c.hour, .int .u16 c.day, .bool c.halt, .bool c.carry] 24) (Nat.le_refl _)
    have G1 := hid (grown_trans (alloc1 w _ _) g1)
    obtain ⟨zP, cP⟩ := id hP
    have p0 := cP 0
    have p1 := cP 1
    have p2 := cP 2
    have p3 := cP 3
    have p4 := cP 4
    have p5 := cP 5
    simp at p0 p1 p2 p3 p4 p5
    clear g1 hP cP
    go_wp2
    go_ret2
    exact ⟨by rw [E.out.1, E.out.2]; rfl, by repeat (first | with_reducible exact G1.out | with_reducible refine Grown.alloc ?_ _ _ | with_reducible refine Grown.setCell ?_ (Nat.le_refl _) _ | with_reducible refine Grown.setCell ?_ (Nat.le_succ _) _)⟩
  · have E := hid (show readV ⟨sec, min, hour, day, halt, carry⟩ 9 = min ∧ regE 9 = 0 from ⟨rfl, rfl⟩)
    go_enter Try.func10, Try.ntmps10
    go_wp2_with fail
    refine (CN.out _).mono ?_
    rintro e u1 ⟨rfl, g1⟩
    obtain ⟨hP, fP⟩ := mine (alloc1 w _ _) (Kept.of g1) (has_alloc w #[.int .u8 c.sec, .int .u8 c.min, .int .u8 c.hour, .int .u16 c.day, .bool c.halt, .bool c.carry] 24) (Nat.le_refl _)
    have G1 := hid (grown_trans (alloc1 w _ _) g1)
    obtain ⟨zP, cP⟩ := id hP
    have p0 := cP 0
    have p1 := cP 1
    have p2 := cP 2
    have p3 := cP 3
    have p4 := cP 4
    have p5 := cP 5
    simp at p0 p1 p2 p3 p4 p5
    clear g1 hP cP
    go_wp2
    go_ret2
    exact ⟨by rw [E.out.1, E.out.2]; rfl, by repeat (first | with_reducible exact G1.out | with_reducible refine Grown.alloc ?_ _ _ | with_reducible refine Grown.setCell ?_ (Nat.le_refl _) _ | with_reducible refine Grown.setCell ?_ (Nat.le_succ _) _)⟩
  · have E := hid (show readV ⟨sec, min, hour, day, halt, carry⟩ 10 = hour ∧ regE 10 = 0 from ⟨rfl, rfl⟩)
    go_enter Try.func10, Try.ntmps10
    go_wp2_with fail
    refine (CN.out _).mono ?_
    rintro e u1 ⟨rfl, g1⟩
    obtain ⟨hP, fP⟩ := mine (alloc1 w _ _) (Kept.of g1) (has_alloc w #[.int .u8 c.sec, .int .u8 c.min, .int .u8 c.hour, .int .u16 c.day, .bool c.halt, .bool c.carry] 24) (Nat.le_refl _)
    have G1 := hid (grown_trans (alloc1 w _ _) g1)
    obtain ⟨zP, cP⟩ := id hP
    have p0 := cP 0
    have p1 := cP 1
    have p2 := cP 2
    have p3 := cP 3
    have p4 := cP 4
    have p5 := cP 5
    simp at p0 p1 p2 p3 p4 p5
    clear g1 hP cP
    go_wp2
    go_ret2
    exact ⟨by rw [E.out.1, E.out.2]; rfl, by repeat (first | with_reducible exact G1.out | with_reducible refine Grown.alloc ?_ _ _ | with_reducible refine Grown.setCell ?_ (Nat.le_refl _) _ | with_reducible refine Grown.setCell ?_ (Nat.le_succ _) _)⟩
  · have E := hid (show readV ⟨sec, min, hour, day, halt, carry⟩ 11 = day % 256 ∧ regE 11 = 0 from ⟨rfl, rfl⟩)
    go_enter Try.func10, Try.ntmps10
    go_wp2_with fail
    refine (CN.out _).mono ?_
    rintro e u1 ⟨rfl, g1⟩
    obtain ⟨hP, fP⟩ := mine (alloc1 w _ _) (Kept.of g1) (has_alloc w #[.int .u8 c.sec, .int .u8 c.min, .int .u8 c.hour, .int .u16 c.day, .bool c.halt, .bool c.carry] 24) (Nat.le_refl _)
    have G1 := hid (grown_trans (alloc1 w _ _) g1)
    obtain ⟨zP, cP⟩ := id hP
    have p0 := cP 0
    have p1 := cP 1
    have p2 := cP 2
    have p3 := cP 3
    have p4 := cP 4
    have p5 := cP 5
    simp at p0 p1 p2 p3 p4 p5
    clear g1 hP cP
    go_wp2
    go_ret2
    exact ⟨by rw [E.out.1, E.out.2]; rfl, by repeat (first | with_reducible exact G1.out | with_reducible refine Grown.alloc ?_ _ _ | with_reducible refine Grown.setCell ?_ (Nat.le_refl _) _ | with_reducible refine Grown.setCell ?_ (Nat.le_succ _) _)⟩
  · have E := hid (show regE 12 = 0 from rfl)
    generalize readV ⟨sec, min, hour, day, halt, carry⟩ 12 = RV at *
    go_enter Try.func10, Try.ntmps10
    go_wp2_with fail
    refine (CN.out _).mono ?_
    rintro e u1 ⟨rfl, g1⟩
    obtain ⟨hP, fP⟩ := mine (alloc1 w _ _) (Kept.of g1) (has_alloc w #[.int .u8 c.sec, .int .u8 c.min, .int .u8 c.hour, .int .u16 c.day, .bool c.halt, .bool c.carry] 24) (Nat.le_refl _)
    have G1 := hid (grown_trans (alloc1 w _ _) g1)
    obtain ⟨zP, cP⟩ := id hP
    have p0 := cP 0
    have p1 := cP 1
    have p2 := cP 2
    have p3 := cP 3
    have p4 := cP 4
    have p5 := cP 5
    simp at p0 p1 p2 p3 p4 p5
    clear g1 hP cP
    go_wp2_with fail
    refine (CM.out _).mono ?_
    rintro e u2 ⟨rfl, g2⟩
    have G2 := hid (grown_trans (show Grown w _ from by repeat (first | with_reducible exact G1.out | with_reducible refine Grown.alloc ?_ _ _ | with_reducible refine Grown.setCell ?_ (Nat.le_refl _) _ | with_reducible refine Grown.setCell ?_ (Nat.le_succ _) _)) g2)
    clear g2
    go_wp2
    go_ret2
    exact ⟨by rw [E.out]; rfl, G2.out⟩
  · obtain ⟨h1, h2, h3, h4, h5⟩ := id hr
    have b1 : (r == 8) = false := by simpa using h1
    have b2 : (r == 9) = false := by simpa using h2
    have b3 : (r == 10) = false := by simpa using h3
    have b4 : (r == 11) = false := by simpa using h4
    have b5 : (r == 12) = false := by simpa using h5
    have E := hid (NO.out hr)
    clear hr NO h1 h2 h3 h4 h5
    go_enter Try.func10, Try.ntmps10
    go_wp2_with fail
    refine (CN.out _).mono ?_
    rintro e u1 ⟨rfl, g1⟩
    obtain ⟨hP, fP⟩ := mine (alloc1 w _ _) (Kept.of g1) (has_alloc w #[.int .u8 c.sec, .int .u8 c.min, .int .u8 c.hour, .int .u16 c.day, .bool c.halt, .bool c.carry] 24) (Nat.le_refl _)
    have G1 := hid (grown_trans (alloc1 w _ _) g1)
    obtain ⟨zP, cP⟩ := id hP
    have p0 := cP 0
    have p1 := cP 1
    have p2 := cP 2
    have p3 := cP 3
    have p4 := cP 4
    have p5 := cP 5
    simp at p0 p1 p2 p3 p4 p5
    clear g1 hP cP
    go_wp2
    go_ret2
    exact ⟨by rw [E.out.1, E.out.2]; rfl, by repeat (first | with_reducible exact G1.out | with_reducible refine Grown.alloc ?_ _ _ | with_reducible refine Grown.setCell ?_ (Nat.le_refl _) _ | with_reducible refine Grown.setCell ?_ (Nat.le_succ _) _)⟩
theorem cread_any (c : Ck) (r : Int) (w : World) (I : CkIn c) : Calls Try.prog 10 #[ckV c, .int .i64 r] w fun e w' => e = .returned (.tuple #[.int .u8 (readC c r), .int .i64 (regE r)]) ∧ Kept w w' :=
  (gread_any c r w I).mono fun e w' h => ⟨h.1, Kept.of h.2⟩
theorem and_fin9 : ∀ b : Fin 256, bits .and .u8 (b.val : Int) 1 = (b.val : Int) % 2 ∧ (bits .and .u8 (b.val : Int) 64 != 0) = ((b.val : Int) / 64 % 2 == 1) ∧ (bits .and .u8 (b.val : Int) 128 != 0) = decide (128 ≤ (b.val : Int)) := by decide +kernel
theorem and9 (v : Int) (v0 : 0 ≤ v) (v1 : v ≤ 255) : bits .and .u8 v 1 = v % 2 ∧ (bits .and .u8 v 64 != 0) = (v / 64 % 2 == 1) ∧ (bits .and .u8 v 128 != 0) = decide (128 ≤ v) :=
  fin8 (p := fun b => bits .and .u8 b 1 = b % 2 ∧ (bits .and .u8 b 64 != 0) = (b / 64 % 2 == 1) ∧ (bits .and .u8 b 128 != 0) = decide (128 ≤ b)) and_fin9 v v0 v1
theorem write_norm8 (c : Ck) (v : Int) (I : CkIn c) (v0 : 0 ≤ v) (v1 : v ≤ 255) : normC ⟨v, c.min, c.hour, c.day, c.halt, c.carry⟩ = writeC c 8 v := by
  obtain ⟨a, b, d, e, f, g, i, j⟩ := I
  show (⟨_, _, _, _, _, _⟩ : Ck) = ⟨_, _, _, _, _, _⟩
  simp only [Ck.mk.injEq, normC, and_true, true_and]
theorem write_norm9 (c : Ck) (v : Int) (I : CkIn c) (v0 : 0 ≤ v) (v1 : v ≤ 255) : normC ⟨c.sec, v, c.hour, c.day, c.halt, c.carry⟩ = writeC c 9 v := by
  obtain ⟨a, b, d, e, f, g, i, j⟩ := I
  show (⟨_, _, _, _, _, _⟩ : Ck) = ⟨_, _, _, _, _, _⟩
  simp only [Ck.mk.injEq, normC, and_true, true_and]
theorem write_norm10 (c : Ck) (v : Int) (I : CkIn c) (v0 : 0 ≤ v) (v1 : v ≤ 255) : normC ⟨c.sec, c.min, v, c.day, c.halt, c.carry⟩ = writeC c 10 v := by
  obtain ⟨a, b, d, e, f, g, i, j⟩ := I
  show (⟨_, _, _, _, _, _⟩ : Ck) = ⟨_, _, _, _, _, _⟩
  simp only [Ck.mk.injEq, normC, and_true, true_and]
theorem write_norm11 (c : Ck) (v : Int) (I : CkIn c) (v0 : 0 ≤ v) (v1 : v ≤ 255) : normC ⟨c.sec, c.min, c.hour, c.day / 256 * 256 + v, c.halt, c.carry⟩ = writeC c 11 v := by
  obtain ⟨a, b, d, e, f, g, i, j⟩ := I
  show (⟨_, _, _, _, _, _⟩ : Ck) = ⟨_, _, _, _, _, _⟩
  simp only [Ck.mk.injEq, normC, and_true, true_and]
  omega
theorem write_norm12 (c : Ck) (v : Int) (I : CkIn c) (v0 : 0 ≤ v) (v1 : v ≤ 255) : normC ⟨c.sec, c.min, c.hour, c.day % 256 + 256 * (v % 2), bits .and .u8 v 64 != 0, bits .and .u8 v 128 != 0⟩ = writeC c 12 v := by
  obtain ⟨a, b, d, e, f, g, i, j⟩ := I
  obtain ⟨_, h2, h3⟩ := and9 v v0 v1
  rw [h2, h3]
  show (⟨_, _, _, _, _, _⟩ : Ck) = ⟨_, _, _, _, _, _⟩
  simp only [Ck.mk.injEq, normC, and_true, true_and]
  omega
set_option maxRecDepth 100000 in
set_option maxHeartbeats 8000000 in
theorem gwrite_any (c : Ck) (r v : Int) (w : World) (I : CkIn c) (v0 : 0 ≤ v) (v1 : v ≤ 255) : Calls Try.prog 9 #[ckV c, .int .i64 r, .int .u8 v] w fun e w' => e = .returned (.tuple #[ckV (writeC c r v), .int .i64 (regE r)]) ∧ Grown w w' := by
  have NO := hid (fun h => (⟨writeC_no c r v h, (readC_no c r h).2⟩ : writeC c r v = ck0 ∧ regE r = 7))
  have I' := hid I
  obtain ⟨a, b, d, e, f, g, i, j⟩ := I
  have m1 := (and9 v v0 v1).1
  have t1 : Int.tmod c.day 256 = c.day % 256 := Int.tmod_eq_emod_of_nonneg i
  have t2 : Int.tdiv c.day 256 = c.day / 256 := Int.tdiv_eq_ediv_of_nonneg i
  have w1 : IntKind.u16.wrap (c.day % 256) = c.day % 256 := by rw [IntKind.wrap_u16]; omega
  have w3 : IntKind.u16.wrap (c.day / 256) = c.day / 256 := by rw [IntKind.wrap_u16]; omega
  have w4 : IntKind.u16.wrap (c.day / 256 * 256) = c.day / 256 * 256 := by rw [IntKind.wrap_u16]; omega
  have w5 : IntKind.u16.wrap v = v := by rw [IntKind.wrap_u16]; omega
  have w6 : IntKind.u16.wrap (c.day / 256 * 256 + v) = c.day / 256 * 256 + v := by rw [IntKind.wrap_u16]; omega
  have wa : IntKind.u16.wrap (v % 2) = v % 2 := by rw [IntKind.wrap_u16]; omega
  have wb : IntKind.u16.wrap (256 * (v % 2)) = 256 * (v % 2) := by rw [IntKind.wrap_u16]; omega
  have wc : IntKind.u16.wrap (c.day % 256 + 256 * (v % 2)) = c.day % 256 + 256 * (v % 2) := by rw [IntKind.wrap_u16]; omega
  have z4 : c.day / 256 * 256 % 65536 = c.day / 256 * 256 := by omega
  have z6 : (c.day / 256 * 256 + v) % 65536 = c.day / 256 * 256 + v := by omega
  have zb : 256 * (v % 2) % 65536 = 256 * (v % 2) := by omega
  have zc : (c.day % 256 + 256 * (v % 2)) % 65536 = c.day % 256 + 256 * (v % 2) := by omega
  rcases regs_of r with rfl | rfl | rfl | rfl | rfl | hr
  · have CN := hid (fun u => gnorm_any ⟨v, c.min, c.hour, c.day, c.halt, c.carry⟩ u ⟨v0, v1, d, e, f, g, i, j⟩)
    rw [write_norm8 c v I'.out v0 v1] at CN
    have E := hid (show regE 8 = 0 from rfl)
    generalize writeC c 8 v = R at *
    clear NO
    go_enter Try.func9, Try.ntmps9
    go_wp2_with fail
    refine (CN.out _).mono ?_
    rintro e u1 ⟨rfl, g1⟩
    obtain ⟨hR, fR⟩ := mine ((alloc1 w _ _).alloc _ _) (Kept.of g1) (has_alloc (w.alloc (.cells #[.int .u8 (v), .int .u8 (c.min), .int .u8 (c.hour), .int .u16 (c.day), .bool (c.halt), .bool (c.carry)] 24)) #[.int .u8 0, .int .u8 0, .int .u8 0, .int .u16 0, .bool false, .bool false] 24) (by simp)
    simp only [World.size_alloc] at hR fR
    have G1 := hid (grown_trans ((alloc1 w _ _).alloc _ _) g1)
    obtain ⟨zR, cR⟩ := id hR
    have r0 := cR 0
    have r1 := cR 1
    have r2 := cR 2
    have r3 := cR 3
    have r4 := cR 4
    have r5 := cR 5
    simp at r0 r1 r2 r3 r4 r5
    clear g1 hR cR
    go_wp2
    exact bodyPost_ret (v := .tuple #[ckV R, .int .i64 0]) (by simp [results, Try.results9, go_sem, r0, r1, r2, r3, r4, r5, zR]) rfl ⟨by rw [E.out], by repeat (first | with_reducible exact G1.out | with_reducible refine Grown.alloc ?_ _ _ | with_reducible refine Grown.setCell ?_ (Nat.le_refl _) _ | with_reducible refine Grown.setCell ?_ (Nat.le_succ _) _)⟩
  · have CN := hid (fun u => gnorm_any ⟨c.sec, v, c.hour, c.day, c.halt, c.carry⟩ u ⟨a, b, v0, v1, f, g, i, j⟩)
    rw [write_norm9 c v I'.out v0 v1] at CN
    have E := hid (show regE 9 = 0 from rfl)
    generalize writeC c 9 v = R at *
    clear NO
    go_enter Try.func9, Try.ntmps9
    go_wp2_with fail
    refine (CN.out _).mono ?_
    rintro e u1 ⟨rfl, g1⟩
    obtain ⟨hR, fR⟩ := mine ((alloc1 w _ _).alloc _ _) (Kept.of g1) (has_alloc (w.alloc (.cells #[.int .u8 (c.sec), .int .u8 (v), .int .u8 (c.hour), .int .u16 (c.day), .bool (c.halt), .bool (c.carry)] 24)) #[.int .u8 0, .int .u8 0, .int .u8 0, .int .u16 0, .bool false, .bool false] 24) (by simp)
    simp only [World.size_alloc] at hR fR
    have G1 := hid (grown_trans ((alloc1 w _ _).alloc _ _) g1)
    obtain ⟨zR, cR⟩ := id hR
    have r0 := cR 0
    have r1 := cR 1
    have r2 := cR 2
    have r3 := cR 3
    have r4 := cR 4
    have r5 := cR 5
    simp at r0 r1 r2 r3 r4 r5
    clear g1 hR cR
    go_wp2
    exact bodyPost_ret (v := .tuple #[ckV R, .int .i64 0]) (by simp [results, Try.results9, go_sem, r0, r1, r2, r3, r4, r5, zR]) rfl ⟨by rw [E.out], by repeat (first | with_reducible exact G1.out | with_reducible refine Grown.alloc ?_ _ _ | with_reducible refine Grown.setCell ?_ (Nat.le_refl _) _ | with_reducible refine Grown.setCell ?_ (Nat.le_succ _) _)⟩
  · have CN := hid (fun u => gnorm_any ⟨c.sec, c.min, v, c.day, c.halt, c.carry⟩ u ⟨a, b, d, e, v0, v1, i, j⟩)
    rw [write_norm10 c v I'.out v0 v1] at CN
    have E := hid (show regE 10 = 0 from rfl)
    generalize writeC c 10 v = R at *
    clear NO
    go_enter Try.func9, Try.ntmps9
    go_wp2_with fail
    refine (CN.out _).mono ?_
    rintro e u1 ⟨rfl, g1⟩
    obtain ⟨hR, fR⟩ := mine ((alloc1 w _ _).alloc _ _) (Kept.of g1) (has_alloc (w.alloc (.cells #[.int .u8 (c.sec), .int .u8 (c.min), .int .u8 (v), .int .u16 (c.day), .bool (c.halt), .bool (c.carry)] 24)) #[.int .u8 0, .int .u8 0, .int .u8 0, .int .u16 0, .bool false, .bool false] 24) (by simp)
    simp only [World.size_alloc] at hR fR
    have G1 := hid (grown_trans ((alloc1 w _ _).alloc _ _) g1)
    obtain ⟨zR, cR⟩ := id hR
    have r0 := cR 0
    have r1 := cR 1
    have r2 := cR 2
    have r3 := cR 3
    have r4 := cR 4
    have r5 := cR 5
    simp at r0 r1 r2 r3 r4 r5
    clear g1 hR cR
    go_wp2
    exact bodyPost_ret (v := .tuple #[ckV R, .int .i64 0]) (by simp [results, Try.results9, go_sem, r0, r1, r2, r3, r4, r5, zR]) rfl ⟨by rw [E.out], by repeat (first | with_reducible exact G1.out | with_reducible refine Grown.alloc ?_ _ _ | with_reducible refine Grown.setCell ?_ (Nat.le_refl _) _ | with_reducible refine Grown.setCell ?_ (Nat.le_succ _) _)⟩
  · have CN := hid (fun u => gnorm_any ⟨c.sec, c.min, c.hour, c.day / 256 * 256 + v, c.halt, c.carry⟩ u ⟨a, b, d, e, f, g, by show 0 ≤ c.day / 256 * 256 + v; omega, by show c.day / 256 * 256 + v ≤ 65535; omega⟩)
    rw [write_norm11 c v I'.out v0 v1] at CN
    have E := hid (show regE 11 = 0 from rfl)
    generalize writeC c 11 v = R at *
    clear NO
    go_enter Try.func9, Try.ntmps9
    go_wp2_with fail
    refine (CN.out _).mono ?_
    rintro e u1 ⟨rfl, g1⟩
    obtain ⟨hR, fR⟩ := mine ((alloc1 w _ _).alloc _ _) (Kept.of g1) (has_alloc (w.alloc (.cells #[.int .u8 (c.sec), .int .u8 (c.min), .int .u8 (c.hour), .int .u16 (c.day / 256 * 256 + v), .bool (c.halt), .bool (c.carry)] 24)) #[.int .u8 0, .int .u8 0, .int .u8 0, .int .u16 0, .bool false, .bool false] 24) (by simp)
    simp only [World.size_alloc] at hR fR
    have G1 := hid (grown_trans ((alloc1 w _ _).alloc _ _) g1)
    obtain ⟨zR, cR⟩ := id hR
    have r0 := cR 0
    have r1 := cR 1
    have r2 := cR 2
    have r3 := cR 3
    have r4 := cR 4
    have r5 := cR 5
    simp at r0 r1 r2 r3 r4 r5
    clear g1 hR cR
    go_wp2
    exact bodyPost_ret (v := .tuple #[ckV R, .int .i64 0]) (by simp [results, Try.results9, go_sem, r0, r1, r2, r3, r4, r5, zR]) rfl ⟨by rw [E.out], by repeat (first | with_reducible exact G1.out | with_reducible refine Grown.alloc ?_ _ _ | with_reducible refine Grown.setCell ?_ (Nat.le_refl _) _ | with_reducible refine Grown.setCell ?_ (Nat.le_succ _) _)⟩
  · have CN := hid (fun u => gnorm_any ⟨c.sec, c.min, c.hour, c.day % 256 + 256 * (v % 2), bits .and .u8 v 64 != 0, bits .and .u8 v 128 != 0⟩ u ⟨a, b, d, e, f, g, by show 0 ≤ c.day % 256 + 256 * (v % 2); omega, by show c.day % 256 + 256 * (v % 2) ≤ 65535; omega⟩)
    rw [write_norm12 c v I'.out v0 v1] at CN
    have E := hid (show regE 12 = 0 from rfl)
    generalize writeC c 12 v = R at *
    clear NO
    go_enter Try.func9, Try.ntmps9
    go_wp2_with fail
    refine (CN.out _).mono ?_
    rintro e u1 ⟨rfl, g1⟩
    obtain ⟨hR, fR⟩ := mine ((alloc1 w _ _).alloc _ _) (Kept.of g1) (has_alloc (w.alloc (.cells #[.int .u8 (c.sec), .int .u8 (c.min), .int .u8 (c.hour), .int .u16 (c.day % 256 + 256 * (v % 2)), .bool (bits .and .u8 v 64 != 0), .bool (bits .and .u8 v 128 != 0)] 24)) #[.int .u8 0, .int .u8 0, .int .u8 0, .int .u16 0, .bool false, .bool false] 24) (by simp)
    simp only [World.size_alloc] at hR fR
    have G1 := hid (grown_trans ((alloc1 w _ _).alloc _ _) g1)
    obtain ⟨zR, cR⟩ := id hR
    have r0 := cR 0
    have r1 := cR 1
    have r2 := cR 2
    have r3 := cR 3
    have r4 := cR 4
    have r5 := cR 5
    simp at r0 r1 r2 r3 r4 r5
    clear g1 hR cR
    go_wp2
    exact bodyPost_ret (v := .tuple #[ckV R, .int .i64 0]) (by simp [results, Try.results9, go_sem, r0, r1, r2, r3, r4, r5, zR]) rfl ⟨by rw [E.out], by repeat (first | with_reducible exact G1.out | with_reducible refine Grown.alloc ?_ _ _ | with_reducible refine Grown.setCell ?_ (Nat.le_refl _) _ | with_reducible refine Grown.setCell ?_ (Nat.le_succ _) _)⟩
  · obtain ⟨h1, h2, h3, h4, h5⟩ := id hr
    have b1 : (r == 8) = false := by simpa using h1
    have b2 : (r == 9) = false := by simpa using h2
    have b3 : (r == 10) = false := by simpa using h3
    have b4 : (r == 11) = false := by simpa using h4
    have b5 : (r == 12) = false := by simpa using h5
    have E := hid (NO.out hr)
    clear hr NO h1 h2 h3 h4 h5
    go_enter Try.func9, Try.ntmps9
    go_wp2
    exact bodyPost_ret (v := .tuple #[ckV ck0, .int .i64 7]) (by simp [results, Try.results9, go_sem, ck0]) rfl ⟨by rw [E.out.1, E.out.2], by repeat (first | with_reducible exact Grown.refl _ | with_reducible refine Grown.alloc ?_ _ _ | with_reducible refine Grown.setCell ?_ (Nat.le_succ _) _)⟩
theorem cwrite_any (c : Ck) (r v : Int) (w : World) (I : CkIn c) (v0 : 0 ≤ v) (v1 : v ≤ 255) : Calls Try.prog 9 #[ckV c, .int .i64 r, .int .u8 v] w fun e w' => e = .returned (.tuple #[ckV (writeC c r v), .int .i64 (regE r)]) ∧ Kept w w' :=
  (gwrite_any c r v w I v0 v1).mono fun e w' h => ⟨h.1, Kept.of h.2⟩
end Go.Proofs.Ytpnidlibgpbjgab
