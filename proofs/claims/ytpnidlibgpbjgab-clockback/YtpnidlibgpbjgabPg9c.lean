/- The program's clock: Run. -/
import Derived.Test.YtpnidlibgpbjgabPg9a
namespace Go.Proofs.Ytpnidlibgpbjgab
open Go.RowKit
set_option linter.unusedVariables false
set_option linter.unusedSimpArgs false

set_option maxRecDepth 100000 in
set_option maxHeartbeats 8000000 in
theorem grun_any (c : Ck) (n : Int) (w : World) (I : CkIn c) : Calls Try.prog 12 #[ckV c, .int .i64 n] w fun e w' => e = .returned (.tuple #[ckV (runR c n), .int .i64 (runE n)]) ∧ Grown w w' := by
  by_cases hn : n < 0 ∨ 100000 < n
  · have E := hid (show runR c n = ck0 ∧ runE n = 1 from ⟨by unfold runR; rw [if_pos hn], by unfold runE; rw [if_pos hn]⟩)
    by_cases c1 : n < 0
    · have d1 : decide (n < 0) = true := decide_eq_true c1
      go_enter Try.func12, Try.ntmps12
      go_wp2
      exact bodyPost_ret (v := .tuple #[ckV ck0, .int .i64 1]) (by simp [results, Try.results12, go_sem, ck0]) rfl ⟨by rw [E.out.1, E.out.2], by repeat (first | with_reducible exact Grown.refl _ | with_reducible refine Grown.alloc ?_ _ _ | with_reducible refine Grown.setCell ?_ (Nat.le_succ _) _)⟩
    · have d1 : decide (n < 0) = false := decide_eq_false c1
      have c2 : 100000 < n := by omega
      have d2 : decide (100000 < n) = true := decide_eq_true c2
      go_enter Try.func12, Try.ntmps12
      go_wp2
      exact bodyPost_ret (v := .tuple #[ckV ck0, .int .i64 1]) (by simp [results, Try.results12, go_sem, ck0]) rfl ⟨by rw [E.out.1, E.out.2], by repeat (first | with_reducible exact Grown.refl _ | with_reducible refine Grown.alloc ?_ _ _ | with_reducible refine Grown.setCell ?_ (Nat.le_succ _) _)⟩
  · have c1 : ¬ n < 0 := by omega
    have c2 : ¬ 100000 < n := by omega
    have d1 : decide (n < 0) = false := decide_eq_false c1
    have d2 : decide (100000 < n) = false := decide_eq_false c2
    have E := hid (show runR c n = runN n.toNat (normC c) ∧ runE n = 0 from ⟨by unfold runR; rw [if_neg hn]; rfl, by unfold runE; rw [if_neg hn]⟩)
    have CN := hid (fun u => gnorm_any c u I)
    have CT := hid (fun k u => gtick_any (runN k (normC c)) u (run_ok (norm_ok I) k).inn)
    have TE := hid (fun k => tickC_ok (run_ok (norm_ok I) k))
    generalize normC c = N at *
    clear I hn
    go_enter Try.func12, Try.ntmps12
    go_wp2_with fail
    refine (CN.out _).mono ?_
    rintro e u1 ⟨rfl, g1⟩
    obtain ⟨hR, fR⟩ := mine ((alloc1 w _ _).alloc _ _) (Kept.of g1) (has_alloc (w.alloc (.cells #[.int .u8 c.sec, .int .u8 c.min, .int .u8 c.hour, .int .u16 c.day, .bool c.halt, .bool c.carry] 24)) #[.int .u8 0, .int .u8 0, .int .u8 0, .int .u16 0, .bool false, .bool false] 24) (by simp)
    simp only [World.size_alloc] at hR fR
    obtain ⟨hP, fP⟩ := mine ((alloc1 w _ _).alloc _ _) (Kept.of g1) (has_past (has_alloc w #[.int .u8 c.sec, .int .u8 c.min, .int .u8 c.hour, .int .u16 c.day, .bool c.halt, .bool c.carry] 24) (.cells #[.int .u8 0, .int .u8 0, .int .u8 0, .int .u16 0, .bool false, .bool false] 24)) (Nat.le_refl _)
    have G1 := hid (grown_trans ((alloc1 w _ _).alloc _ _) g1)
    obtain ⟨zP, cP⟩ := id hP
    have r0 := cP 0
    have r1 := cP 1
    have r2 := cP 2
    have r3 := cP 3
    have r4 := cP 4
    have r5 := cP 5
    simp at r0 r1 r2 r3 r4 r5
    have HR := hid hR
    have HP := hid hP
    have n1 : w.heap.size ≠ w.heap.size + 1 := by omega
    clear g1 hR cP hP
    go_wp2_with fail
    go_loopw [16] (fun i wr => ∃ j : Nat, (j : Int) ≤ n ∧ i = .int .i64 (j : Int) ∧ Has wr w.heap.size #[.int .u8 (runN j N).sec, .int .u8 (runN j N).min, .int .u8 (runN j N).hour, .int .u16 (runN j N).day, .bool (runN j N).halt, .bool (runN j N).carry] ∧ Has wr (w.heap.size + 1) #[.int .u8 0, .int .u8 0, .int .u8 0, .int .u16 0, .bool false, .bool false] ∧ Grown w wr) (fun i _ => n.toNat - (intOf i).toNat)
    case atStart => exact ⟨0, by omega, rfl, has_set6 HP.out _ _ _ _ _ _, (by repeat (first | with_reducible exact HR.out | with_reducible refine has_other ?_ n1 _)), (by repeat (first | with_reducible exact G1.out | with_reducible refine Grown.setCell ?_ (Nat.le_refl _) _))⟩
    case round =>
      obtain ⟨j, hj, rfl, hp, hr, hg⟩ := hrel
      have HPj := hid hp
      have HRj := hid hr
      have Gj := hid hg
      obtain ⟨zp, cp⟩ := id hp
      have p0 := cp 0
      have p1 := cp 1
      have p2 := cp 2
      have p3 := cp 3
      have p4 := cp 4
      have p5 := cp 5
      simp at p0 p1 p2 p3 p4 p5
      have fp := fun o => grown_froz hg (Nat.le_refl w.heap.size) o
      have fq := fun o => grown_froz hg (Nat.le_succ w.heap.size) o
      clear hp hr hg cp r0 r1 r2 r3 r4 r5 HR HP G1 zP fR fP
      by_cases hlt : (j : Int) < n
      · have T := TE.out j
        have C := hid (CT.out j)
        rw [T] at C
        have S1 := hid (show runN (j + 1) N = tickN (runN j N) from rfl)
        generalize runN j N = A at *
        generalize tickN A = B at *
        clear T
        go_wp2_with fail
        refine (C.out _).mono ?_
        rintro e u2 ⟨rfl, g2⟩
        have D1 := has_grown g2 HPj.out
        have D2 := hid (has_grown g2 HRj.out)
        have G2 := hid (grown_trans Gj.out g2)
        have f2 := fun o => grown_froz G2.out (Nat.le_refl w.heap.size) o
        obtain ⟨z2, c2⟩ := id D1
        have s0 := c2 0
        have s1 := c2 1
        have s2 := c2 2
        have s3 := c2 3
        have s4 := c2 4
        have s5 := c2 5
        simp at s0 s1 s2 s3 s4 s5
        have D1h := hid D1
        clear g2 D1 c2 p0 p1 p2 p3 p4 p5 zp fp fq
        go_wp2_with fail
        go_roundw
        case rel => exact ⟨j + 1, by omega, by go_num, by rw [S1.out]; exact has_set6 D1h.out _ _ _ _ _ _, (by repeat (first | with_reducible exact D2.out | with_reducible refine has_other ?_ n1 _)), (by repeat (first | with_reducible exact G2.out | with_reducible refine Grown.setCell ?_ (Nat.le_refl _) _))⟩
        case measure => first | omega | (simp; omega) | (simp [intOf]; omega)
      · have EN := hid (show n.toNat = j by omega)
        rw [EN.out] at E
        generalize runN j N = A at *
        obtain ⟨zr, cr⟩ := id HRj.out
        have s0 := cr 0
        have s1 := cr 1
        have s2 := cr 2
        have s3 := cr 3
        have s4 := cr 4
        have s5 := cr 5
        simp at s0 s1 s2 s3 s4 s5
        clear cr
        go_wp2
        exact bodyPost_ret (v := .tuple #[ckV A, .int .i64 0]) (by simp [results, Try.results12, go_sem, s0, s1, s2, s3, s4, s5, zr]) rfl ⟨by rw [E.out.1, E.out.2], by repeat (first | with_reducible exact Gj.out | with_reducible refine Grown.setCell ?_ (Nat.le_succ _) _)⟩
theorem crun_any (c : Ck) (n : Int) (w : World) (I : CkIn c) : Calls Try.prog 12 #[ckV c, .int .i64 n] w fun e w' => e = .returned (.tuple #[ckV (runR c n), .int .i64 (runE n)]) ∧ Kept w w' :=
  (grun_any c n w I).mono fun e w' h => ⟨h.1, Kept.of h.2⟩
end Go.Proofs.Ytpnidlibgpbjgab
