/- The program's clock: Of. -/
import Derived.Test.YtfmddnekooojkaaGreatDoorG22
import Derived.Deep.DeepCutAuto
import Derived.Deep.RegionWith
namespace Go.Proofs.YtfmddnekooojkaaGreatDoor
open Go.RowKit
set_option linter.unusedVariables false
set_option linter.unusedSimpArgs false

set_option maxRecDepth 100000 in
set_option maxHeartbeats 3000000 in
theorem gof_any (z : List Int) (a : Option Addr) (cap : Nat) (w : World) (row : Row w a z) (lc : z.length ≤ cap) (cm : cap ≤ maxLen) :
    Calls Tryz.prog 42 #[.slice a z.length cap] w fun e w' => e = .returned (.tuple #[ckV (ofX z), ckV (ofY z), .int .i64 (ofE z)]) ∧ Grown w w' := by
  by_cases hl : z.length = 10
  · obtain ⟨x, rfl, hx, hc⟩ := row_get row (by omega)
    have h0 := (hc 0 (by omega)).1
    rw [show x.add 0 = x from rfl] at h0
    have g : ∀ i, 0 < i → i < 10 → w.cell? ⟨x.block, x.off + i, none⟩ = some (.int .u8 (z.getD i 0)) := fun i h1 h2 => get_off9 (hc i (by omega)).1 h1
    have IB : ∀ i, i < 10 → InByte (z.getD i 0) := fun i hi => (hc i (by omega)).2
    have A := hid (fun u (gr : Grown w u) => laid_any (z.getD 0 0) (z.getD 1 0) (z.getD 2 0) (z.getD 3 0) (z.getD 4 0) x cap u (IB 0 (by decide)) (IB 1 (by decide)) (IB 2 (by decide)) (IB 3 (by decide)) (IB 4 (by decide)) (Nat.lt_of_lt_of_le hx gr.2.2)
      (((Kept.of gr).cell (x := x) hx).trans h0) (((Kept.of gr).cell (x := ⟨x.block, x.off + 1, none⟩) hx).trans (g 1 (by decide) (by decide))) (((Kept.of gr).cell (x := ⟨x.block, x.off + 2, none⟩) hx).trans (g 2 (by decide) (by decide))) (((Kept.of gr).cell (x := ⟨x.block, x.off + 3, none⟩) hx).trans (g 3 (by decide) (by decide))) (((Kept.of gr).cell (x := ⟨x.block, x.off + 4, none⟩) hx).trans (g 4 (by decide) (by decide))))
    have B := hid (fun u (gr : Grown w u) => laid_any (z.getD 5 0) (z.getD 6 0) (z.getD 7 0) (z.getD 8 0) (z.getD 9 0) ⟨x.block, x.off + 5, none⟩ (cap - 5) u (IB 5 (by decide)) (IB 6 (by decide)) (IB 7 (by decide)) (IB 8 (by decide)) (IB 9 (by decide)) (Nat.lt_of_lt_of_le hx gr.2.2)
      (((Kept.of gr).cell (x := ⟨x.block, x.off + 5, none⟩) hx).trans (g 5 (by decide) (by decide))) (((Kept.of gr).cell (x := ⟨x.block, x.off + 6, none⟩) hx).trans (g 6 (by decide) (by decide))) (((Kept.of gr).cell (x := ⟨x.block, x.off + 7, none⟩) hx).trans (g 7 (by decide) (by decide))) (((Kept.of gr).cell (x := ⟨x.block, x.off + 8, none⟩) hx).trans (g 8 (by decide) (by decide))) (((Kept.of gr).cell (x := ⟨x.block, x.off + 9, none⟩) hx).trans (g 9 (by decide) (by decide))))
    have NA := hid (fun u => norm_ex _ u (laid_in (z.getD 0 0) (z.getD 1 0) (z.getD 2 0) (z.getD 3 0) (z.getD 4 0) (IB 0 (by decide)) (IB 1 (by decide)) (IB 2 (by decide)) (IB 3 (by decide)) (IB 4 (by decide))))
    have NB := hid (fun u => norm_ex _ u (laid_in (z.getD 5 0) (z.getD 6 0) (z.getD 7 0) (z.getD 8 0) (z.getD 9 0) (IB 5 (by decide)) (IB 6 (by decide)) (IB 7 (by decide)) (IB 8 (by decide)) (IB 9 (by decide))))
    have SA := hid (fun u => eq_clocks (laidC (z.getD 0 0) (z.getD 1 0) (z.getD 2 0) (z.getD 3 0) (z.getD 4 0)) (normC (laidC (z.getD 0 0) (z.getD 1 0) (z.getD 2 0) (z.getD 3 0) (z.getD 4 0))) u)
    have SB := hid (fun u => eq_clocks (laidC (z.getD 5 0) (z.getD 6 0) (z.getD 7 0) (z.getD 8 0) (z.getD 9 0)) (normC (laidC (z.getD 5 0) (z.getD 6 0) (z.getD 7 0) (z.getD 8 0) (z.getD 9 0))) u)
    have EB := hid (fun (h : badA z ∨ badB z) => show ofE z = 6 by unfold ofE; rw [if_neg (by omega), if_pos h])
    have EN := hid (fun (h : ¬ (badA z ∨ badB z)) => show ofE z = 0 by unfold ofE; rw [if_neg (by omega), if_neg h])
    have OX := hid (fun (h : ofE z = 0) => (⟨by unfold ofX; rw [if_pos h], by unfold ofY; rw [if_pos h]⟩ : ofX z = oneC (z.getD 0 0) (z.getD 1 0) (z.getD 2 0) (z.getD 3 0) (z.getD 4 0) ∧ ofY z = oneC (z.getD 5 0) (z.getD 6 0) (z.getD 7 0) (z.getD 8 0) (z.getD 9 0)))
    have ON := hid (of_no z 6)
    have GA := hid (fun h => laid_good (z.getD 0 0) (z.getD 1 0) (z.getD 2 0) (z.getD 3 0) (z.getD 4 0) (IB 0 (by decide)) (IB 1 (by decide)) (IB 2 (by decide)) (IB 3 (by decide)) (IB 4 (by decide)) h)
    have GB := hid (fun h => laid_good (z.getD 5 0) (z.getD 6 0) (z.getD 7 0) (z.getD 8 0) (z.getD 9 0) (IB 5 (by decide)) (IB 6 (by decide)) (IB 7 (by decide)) (IB 8 (by decide)) (IB 9 (by decide)) h)
    have FA := hid (fun h => laid_bad (z.getD 0 0) (z.getD 1 0) (z.getD 2 0) (z.getD 3 0) (z.getD 4 0) (IB 0 (by decide)) (IB 1 (by decide)) (IB 2 (by decide)) (IB 3 (by decide)) (IB 4 (by decide)) h)
    have FB := hid (fun h => laid_bad (z.getD 5 0) (z.getD 6 0) (z.getD 7 0) (z.getD 8 0) (z.getD 9 0) (IB 5 (by decide)) (IB 6 (by decide)) (IB 7 (by decide)) (IB 8 (by decide)) (IB 9 (by decide)) h)
    change Hid (badA z → _) at FA
    change Hid (badB z → _) at FB
    change Hid (¬ badA z → _) at GA
    change Hid (¬ badB z → _) at GB
    generalize oneC (z.getD 0 0) (z.getD 1 0) (z.getD 2 0) (z.getD 3 0) (z.getD 4 0) = CX at *
    generalize oneC (z.getD 5 0) (z.getD 6 0) (z.getD 7 0) (z.getD 8 0) (z.getD 9 0) = CY at *
    generalize laidC (z.getD 0 0) (z.getD 1 0) (z.getD 2 0) (z.getD 3 0) (z.getD 4 0) = LX at *
    generalize laidC (z.getD 5 0) (z.getD 6 0) (z.getD 7 0) (z.getD 8 0) (z.getD 9 0) = LY at *
    generalize normC LX = NX at *
    generalize normC LY = NY at *
    rw [hl] at lc ⊢
    have k1 : (5 : Int) ≤ (cap : Int) := by omega
    have k2 : (5 : Int) ≠ (cap : Int) := by omega
    have k3 : (10 : Int) ≤ (cap : Int) := by omega
    clear h0 g IB hc row hl
    have G0 := hid ((alloc1 w #[.int .u8 0, .int .u8 0, .int .u8 0, .int .u16 0, .bool false, .bool false] 35).alloc #[.int .u8 0, .int .u8 0, .int .u8 0, .int .u16 0, .bool false, .bool false] 35)
    have HX0 := hid (has_past (has_alloc w #[.int .u8 0, .int .u8 0, .int .u8 0, .int .u16 0, .bool false, .bool false] 35) (.cells #[.int .u8 0, .int .u8 0, .int .u8 0, .int .u16 0, .bool false, .bool false] 35))
    have HY0 := hid (has_alloc (w.alloc (.cells #[.int .u8 0, .int .u8 0, .int .u8 0, .int .u16 0, .bool false, .bool false] 35)) #[.int .u8 0, .int .u8 0, .int .u8 0, .int .u16 0, .bool false, .bool false] 35)
    simp only [World.size_alloc] at HY0
    go_enter Tryz.func42, Tryz.ntmps42
    go_wp2_with fail
    go_cut [5, 6] (fun s t wx => ∃ p q : Nat, s = .pointer (some ⟨p, 0, none⟩) ∧ t = .pointer (some ⟨q, 0, none⟩) ∧ w.heap.size + 2 ≤ p ∧ w.heap.size + 2 ≤ q ∧ p ≠ q ∧ Has wx p #[.int .u8 LX.sec, .int .u8 LX.min, .int .u8 LX.hour, .int .u16 LX.day, .bool LX.halt, .bool LX.carry] ∧ Has wx q #[.int .u8 LY.sec, .int .u8 LY.min, .int .u8 LY.hour, .int .u16 LY.day, .bool LY.halt, .bool LY.carry] ∧ Has wx w.heap.size #[.int .u8 0, .int .u8 0, .int .u8 0, .int .u16 0, .bool false, .bool false] ∧ Has wx (w.heap.size + 1) #[.int .u8 0, .int .u8 0, .int .u8 0, .int .u16 0, .bool false, .bool false] ∧ Grown w wx)
    case first =>
      go_region_with (first | (go_at_call_of 66 (some x); refine (A.out _ ?_).mono ?_; (focus repeat (first | with_reducible exact G0.out | with_reducible refine Grown.drew ?_ | with_reducible refine Grown.alloc ?_ _ _)); rintro e v1 ⟨rfl, rfl⟩) | (go_at_call 66; refine (B.out _ ?_).mono ?_; (focus repeat (first | with_reducible exact G0.out | with_reducible refine Grown.drew ?_ | with_reducible refine Grown.alloc ?_ _ _)); rintro e v2 ⟨rfl, rfl⟩))
      all_goals
        go_wp2_with fail
      all_goals
        go_meet
      all_goals
        refine ⟨_, _, rfl, rfl, ?_, ?_, ?_, ?_, ?_, ?_, ?_, ?_⟩
        · first | omega | (simp; omega)
        · first | omega | (simp; omega)
        · first | omega | (simp; done) | (simp; omega)
        · repeat (first | with_reducible exact HX0.out | with_reducible exact HY0.out | (with_reducible refine has_alloc_b ?_; (simp; done)) | with_reducible refine has_drew ?_ | with_reducible refine has_set6 (c0 := .int .u8 0) (c1 := .int .u8 0) (c2 := .int .u8 0) (c3 := .int .u16 0) (c4 := .bool false) (c5 := .bool false) ?_ _ _ _ _ _ _ | (with_reducible refine has_other2 ?_ ?_ _; (focus first | (simp; done) | (simp; omega))) | with_reducible refine has_past ?_ _)
        · repeat (first | with_reducible exact HX0.out | with_reducible exact HY0.out | (with_reducible refine has_alloc_b ?_; (simp; done)) | with_reducible refine has_drew ?_ | with_reducible refine has_set6 (c0 := .int .u8 0) (c1 := .int .u8 0) (c2 := .int .u8 0) (c3 := .int .u16 0) (c4 := .bool false) (c5 := .bool false) ?_ _ _ _ _ _ _ | (with_reducible refine has_other2 ?_ ?_ _; (focus first | (simp; done) | (simp; omega))) | with_reducible refine has_past ?_ _)
        · repeat (first | with_reducible exact HX0.out | with_reducible exact HY0.out | (with_reducible refine has_alloc_b ?_; (simp; done)) | with_reducible refine has_drew ?_ | with_reducible refine has_set6 (c0 := .int .u8 0) (c1 := .int .u8 0) (c2 := .int .u8 0) (c3 := .int .u16 0) (c4 := .bool false) (c5 := .bool false) ?_ _ _ _ _ _ _ | (with_reducible refine has_other2 ?_ ?_ _; (focus first | (simp; done) | (simp; omega))) | with_reducible refine has_past ?_ _)
        · repeat (first | with_reducible exact HX0.out | with_reducible exact HY0.out | (with_reducible refine has_alloc_b ?_; (simp; done)) | with_reducible refine has_drew ?_ | with_reducible refine has_set6 (c0 := .int .u8 0) (c1 := .int .u8 0) (c2 := .int .u8 0) (c3 := .int .u16 0) (c4 := .bool false) (c5 := .bool false) ?_ _ _ _ _ _ _ | (with_reducible refine has_other2 ?_ ?_ _; (focus first | (simp; done) | (simp; omega))) | with_reducible refine has_past ?_ _)
        · repeat (first | with_reducible exact G0.out | with_reducible refine Grown.drew ?_ | with_reducible refine Grown.alloc ?_ _ _ | with_reducible refine Grown.setCell ?_ (by first | exact Nat.le_refl _ | (simp; omega) | omega) _)
    case rest =>
      obtain ⟨p, q, rfl, rfl, lp, lq, pq, hp, hq, hX, hY, gw⟩ := hcut
      obtain ⟨zp, cp⟩ := id hp
      have p0 := cp 0
      have p1 := cp 1
      have p2 := cp 2
      have p3 := cp 3
      have p4 := cp 4
      have p5 := cp 5
      simp at p0 p1 p2 p3 p4 p5
      obtain ⟨zq, cq⟩ := id hq
      have q0 := cq 0
      have q1 := cq 1
      have q2 := cq 2
      have q3 := cq 3
      have q4 := cq 4
      have q5 := cq 5
      simp at q0 q1 q2 q3 q4 q5
      have HP := hid hp
      have HQ := hid hq
      have HX := hid hX
      have HY := hid hY
      have GW := hid gw
      have n1 : p ≠ w.heap.size := by omega
      have n2 : p ≠ w.heap.size + 1 := by omega
      have n3 : q ≠ w.heap.size := by omega
      have n4 : q ≠ w.heap.size + 1 := by omega
      have j1 : p ≠ wc.heap.size := by omega
      have j2 : p ≠ wc.heap.size + 1 := by omega
      have j3 : p < wc.heap.size + 1 := by omega
      have j4 : p < wc.heap.size + 1 + 1 := by omega
      have j5 : q ≠ wc.heap.size := by omega
      have j6 : q ≠ wc.heap.size + 1 := by omega
      have j7 : q < wc.heap.size + 1 := by omega
      have j8 : q < wc.heap.size + 1 + 1 := by omega
      clear hp hq hX hY gw cp cq A B G0 HX0 HY0
      by_cases ha : badA z
      · have eA := SA.out
        rw [FA.out ha] at eA
        have E := hid (EB.out (.inl ha))
        clear ha
        go_wp2_with fail
        go_cut [27] (fun b wx => b = .bool true ∧ Has wx p #[.int .u8 LX.sec, .int .u8 LX.min, .int .u8 LX.hour, .int .u16 LX.day, .bool LX.halt, .bool LX.carry] ∧ Has wx q #[.int .u8 LY.sec, .int .u8 LY.min, .int .u8 LY.hour, .int .u16 LY.day, .bool LY.halt, .bool LY.carry] ∧ Has wx w.heap.size #[.int .u8 0, .int .u8 0, .int .u8 0, .int .u16 0, .bool false, .bool false] ∧ Has wx (w.heap.size + 1) #[.int .u8 0, .int .u8 0, .int .u8 0, .int .u16 0, .bool false, .bool false] ∧ Grown w wx)
        case first =>
          go_region_with ((go_at_call_of 55 (Value.int IntKind.u8 LX.sec); refine (NA.out _).mono ?_; rintro e v1 ⟨rfl, rfl⟩))
          all_goals
            go_wp2_with fail
          all_goals
            go_meet
          all_goals
            refine ⟨rfl, ?_, ?_, ?_, ?_, ?_⟩
            · repeat (first | with_reducible exact HP.out | with_reducible exact HQ.out | with_reducible exact HX.out | with_reducible exact HY.out | with_reducible refine has_drew ?_ | with_reducible refine has_past ?_ _)
            · repeat (first | with_reducible exact HP.out | with_reducible exact HQ.out | with_reducible exact HX.out | with_reducible exact HY.out | with_reducible refine has_drew ?_ | with_reducible refine has_past ?_ _)
            · repeat (first | with_reducible exact HP.out | with_reducible exact HQ.out | with_reducible exact HX.out | with_reducible exact HY.out | with_reducible refine has_drew ?_ | with_reducible refine has_past ?_ _)
            · repeat (first | with_reducible exact HP.out | with_reducible exact HQ.out | with_reducible exact HX.out | with_reducible exact HY.out | with_reducible refine has_drew ?_ | with_reducible refine has_past ?_ _)
            · repeat (first | with_reducible exact GW.out | with_reducible refine Grown.drew ?_ | with_reducible refine Grown.alloc ?_ _ _ | with_reducible refine Grown.setCell ?_ (Nat.le_refl _) _ | with_reducible refine Grown.setCell ?_ (Nat.le_succ _) _)
        case rest =>
          clear p0 p1 p2 p3 p4 p5 q0 q1 q2 q3 q4 q5 HP HQ HX HY GW j1 j2 j3 j4 j5 j6 j7 j8
          obtain ⟨rfl, hp, hq, hX, hY, gw⟩ := hcut
          obtain ⟨zp, cp⟩ := id hp
          have p0 := cp 0
          have p1 := cp 1
          have p2 := cp 2
          have p3 := cp 3
          have p4 := cp 4
          have p5 := cp 5
          simp at p0 p1 p2 p3 p4 p5
          obtain ⟨zq, cq⟩ := id hq
          have q0 := cq 0
          have q1 := cq 1
          have q2 := cq 2
          have q3 := cq 3
          have q4 := cq 4
          have q5 := cq 5
          simp at q0 q1 q2 q3 q4 q5
          obtain ⟨zx, cx⟩ := id hX
          have x0 := cx 0
          have x1 := cx 1
          have x2 := cx 2
          have x3 := cx 3
          have x4 := cx 4
          have x5 := cx 5
          simp at x0 x1 x2 x3 x4 x5
          obtain ⟨zy, cy⟩ := id hY
          have y0 := cy 0
          have y1 := cy 1
          have y2 := cy 2
          have y3 := cy 3
          have y4 := cy 4
          have y5 := cy 5
          simp at y0 y1 y2 y3 y4 y5
          have GW := hid gw
          have fx := fun o => grown_froz gw (Nat.le_refl w.heap.size) o
          have fy := fun o => grown_froz gw (Nat.le_succ w.heap.size) o
          have m1 : w.heap.size ≠ w.heap.size + 1 := by omega
          have m2 : w.heap.size + 1 ≠ w.heap.size := by omega
          have m3 : w.heap.size ≠ p := by omega
          have m4 : w.heap.size + 1 ≠ p := by omega
          have m5 : w.heap.size ≠ q := by omega
          have m6 : w.heap.size + 1 ≠ q := by omega
          clear hp hq hX hY gw cp cq cx cy
          have N := hid (ON.out E.out (by decide))
          go_wp2
          exact bodyPost_ret (v := .tuple #[ckV ck0, ckV ck0, .int .i64 6]) (by simp [results, Tryz.results42, go_sem, ck0, x0, x1, x2, x3, x4, x5, y0, y1, y2, y3, y4, y5, zx, zy, m1, m2, n1, n2, n3, n4, m3, m4, m5, m6]) rfl ⟨by rw [E.out, N.out.1, N.out.2], by repeat (first | with_reducible exact GW.out | with_reducible refine Grown.drew ?_ | with_reducible refine Grown.alloc ?_ _ _ | with_reducible refine Grown.setCell ?_ (Nat.le_refl _) _ | with_reducible refine Grown.setCell ?_ (Nat.le_succ _) _)⟩
      · have eA := SA.out
        rw [(GA.out ha).1] at eA
        by_cases hb : badB z
        · have eB := SB.out
          rw [FB.out hb] at eB
          have E := hid (EB.out (.inr hb))
          clear hb ha
          go_wp2_with fail
          go_cut [27] (fun b wx => b = .bool true ∧ Has wx p #[.int .u8 LX.sec, .int .u8 LX.min, .int .u8 LX.hour, .int .u16 LX.day, .bool LX.halt, .bool LX.carry] ∧ Has wx q #[.int .u8 LY.sec, .int .u8 LY.min, .int .u8 LY.hour, .int .u16 LY.day, .bool LY.halt, .bool LY.carry] ∧ Has wx w.heap.size #[.int .u8 0, .int .u8 0, .int .u8 0, .int .u16 0, .bool false, .bool false] ∧ Has wx (w.heap.size + 1) #[.int .u8 0, .int .u8 0, .int .u8 0, .int .u16 0, .bool false, .bool false] ∧ Grown w wx)
          case first =>
            go_region_with (first | (go_at_call_of 55 (Value.int IntKind.u8 LX.sec); refine (NA.out _).mono ?_; rintro e v1 ⟨rfl, rfl⟩) | (go_at_call_of 55 (Value.int IntKind.u8 LY.sec); refine (NB.out _).mono ?_; rintro e v1 ⟨rfl, rfl⟩))
            all_goals
              go_wp2_with fail
            all_goals
              go_meet
            all_goals
              refine ⟨rfl, ?_, ?_, ?_, ?_, ?_⟩
              · repeat (first | with_reducible exact HP.out | with_reducible exact HQ.out | with_reducible exact HX.out | with_reducible exact HY.out | with_reducible refine has_drew ?_ | with_reducible refine has_past ?_ _)
              · repeat (first | with_reducible exact HP.out | with_reducible exact HQ.out | with_reducible exact HX.out | with_reducible exact HY.out | with_reducible refine has_drew ?_ | with_reducible refine has_past ?_ _)
              · repeat (first | with_reducible exact HP.out | with_reducible exact HQ.out | with_reducible exact HX.out | with_reducible exact HY.out | with_reducible refine has_drew ?_ | with_reducible refine has_past ?_ _)
              · repeat (first | with_reducible exact HP.out | with_reducible exact HQ.out | with_reducible exact HX.out | with_reducible exact HY.out | with_reducible refine has_drew ?_ | with_reducible refine has_past ?_ _)
              · repeat (first | with_reducible exact GW.out | with_reducible refine Grown.drew ?_ | with_reducible refine Grown.alloc ?_ _ _ | with_reducible refine Grown.setCell ?_ (Nat.le_refl _) _ | with_reducible refine Grown.setCell ?_ (Nat.le_succ _) _)
          case rest =>
            clear p0 p1 p2 p3 p4 p5 q0 q1 q2 q3 q4 q5 HP HQ HX HY GW j1 j2 j3 j4 j5 j6 j7 j8
            obtain ⟨rfl, hp, hq, hX, hY, gw⟩ := hcut
            obtain ⟨zp, cp⟩ := id hp
            have p0 := cp 0
            have p1 := cp 1
            have p2 := cp 2
            have p3 := cp 3
            have p4 := cp 4
            have p5 := cp 5
            simp at p0 p1 p2 p3 p4 p5
            obtain ⟨zq, cq⟩ := id hq
            have q0 := cq 0
            have q1 := cq 1
            have q2 := cq 2
            have q3 := cq 3
            have q4 := cq 4
            have q5 := cq 5
            simp at q0 q1 q2 q3 q4 q5
            obtain ⟨zx, cx⟩ := id hX
            have x0 := cx 0
            have x1 := cx 1
            have x2 := cx 2
            have x3 := cx 3
            have x4 := cx 4
            have x5 := cx 5
            simp at x0 x1 x2 x3 x4 x5
            obtain ⟨zy, cy⟩ := id hY
            have y0 := cy 0
            have y1 := cy 1
            have y2 := cy 2
            have y3 := cy 3
            have y4 := cy 4
            have y5 := cy 5
            simp at y0 y1 y2 y3 y4 y5
            have GW := hid gw
            have fx := fun o => grown_froz gw (Nat.le_refl w.heap.size) o
            have fy := fun o => grown_froz gw (Nat.le_succ w.heap.size) o
            have m1 : w.heap.size ≠ w.heap.size + 1 := by omega
            have m2 : w.heap.size + 1 ≠ w.heap.size := by omega
            have m3 : w.heap.size ≠ p := by omega
            have m4 : w.heap.size + 1 ≠ p := by omega
            have m5 : w.heap.size ≠ q := by omega
            have m6 : w.heap.size + 1 ≠ q := by omega
            clear hp hq hX hY gw cp cq cx cy
            have N := hid (ON.out E.out (by decide))
            go_wp2
            exact bodyPost_ret (v := .tuple #[ckV ck0, ckV ck0, .int .i64 6]) (by simp [results, Tryz.results42, go_sem, ck0, x0, x1, x2, x3, x4, x5, y0, y1, y2, y3, y4, y5, zx, zy, m1, m2, n1, n2, n3, n4, m3, m4, m5, m6]) rfl ⟨by rw [E.out, N.out.1, N.out.2], by repeat (first | with_reducible exact GW.out | with_reducible refine Grown.drew ?_ | with_reducible refine Grown.alloc ?_ _ _ | with_reducible refine Grown.setCell ?_ (Nat.le_refl _) _ | with_reducible refine Grown.setCell ?_ (Nat.le_succ _) _)⟩
        · have eB := SB.out
          rw [(GB.out hb).1] at eB
          have E := hid (EN.out (fun k => k.elim ha hb))
          obtain ⟨o1, o2⟩ := OX.out E.out
          have O1 := hid (o1.trans (GA.out ha).2.symm)
          have O2 := hid (o2.trans (GB.out hb).2.symm)
          clear o1 o2 ha hb
          go_wp2_with fail
          go_cut [27] (fun b wx => b = .bool false ∧ Has wx p #[.int .u8 LX.sec, .int .u8 LX.min, .int .u8 LX.hour, .int .u16 LX.day, .bool LX.halt, .bool LX.carry] ∧ Has wx q #[.int .u8 LY.sec, .int .u8 LY.min, .int .u8 LY.hour, .int .u16 LY.day, .bool LY.halt, .bool LY.carry] ∧ Has wx w.heap.size #[.int .u8 0, .int .u8 0, .int .u8 0, .int .u16 0, .bool false, .bool false] ∧ Has wx (w.heap.size + 1) #[.int .u8 0, .int .u8 0, .int .u8 0, .int .u16 0, .bool false, .bool false] ∧ Grown w wx)
          case first =>
            go_region_with (first | (go_at_call_of 55 (Value.int IntKind.u8 LX.sec); refine (NA.out _).mono ?_; rintro e v1 ⟨rfl, rfl⟩) | (go_at_call_of 55 (Value.int IntKind.u8 LY.sec); refine (NB.out _).mono ?_; rintro e v1 ⟨rfl, rfl⟩))
            all_goals
              go_wp2_with fail
            all_goals
              go_meet
            all_goals
              refine ⟨rfl, ?_, ?_, ?_, ?_, ?_⟩
              · repeat (first | with_reducible exact HP.out | with_reducible exact HQ.out | with_reducible exact HX.out | with_reducible exact HY.out | with_reducible refine has_drew ?_ | with_reducible refine has_past ?_ _)
              · repeat (first | with_reducible exact HP.out | with_reducible exact HQ.out | with_reducible exact HX.out | with_reducible exact HY.out | with_reducible refine has_drew ?_ | with_reducible refine has_past ?_ _)
              · repeat (first | with_reducible exact HP.out | with_reducible exact HQ.out | with_reducible exact HX.out | with_reducible exact HY.out | with_reducible refine has_drew ?_ | with_reducible refine has_past ?_ _)
              · repeat (first | with_reducible exact HP.out | with_reducible exact HQ.out | with_reducible exact HX.out | with_reducible exact HY.out | with_reducible refine has_drew ?_ | with_reducible refine has_past ?_ _)
              · repeat (first | with_reducible exact GW.out | with_reducible refine Grown.drew ?_ | with_reducible refine Grown.alloc ?_ _ _ | with_reducible refine Grown.setCell ?_ (Nat.le_refl _) _ | with_reducible refine Grown.setCell ?_ (Nat.le_succ _) _)
          case rest =>
            clear p0 p1 p2 p3 p4 p5 q0 q1 q2 q3 q4 q5 HP HQ HX HY GW j1 j2 j3 j4 j5 j6 j7 j8
            obtain ⟨rfl, hp, hq, hX, hY, gw⟩ := hcut
            obtain ⟨zp, cp⟩ := id hp
            have p0 := cp 0
            have p1 := cp 1
            have p2 := cp 2
            have p3 := cp 3
            have p4 := cp 4
            have p5 := cp 5
            simp at p0 p1 p2 p3 p4 p5
            obtain ⟨zq, cq⟩ := id hq
            have q0 := cq 0
            have q1 := cq 1
            have q2 := cq 2
            have q3 := cq 3
            have q4 := cq 4
            have q5 := cq 5
            simp at q0 q1 q2 q3 q4 q5
            obtain ⟨zx, cx⟩ := id hX
            have x0 := cx 0
            have x1 := cx 1
            have x2 := cx 2
            have x3 := cx 3
            have x4 := cx 4
            have x5 := cx 5
            simp at x0 x1 x2 x3 x4 x5
            obtain ⟨zy, cy⟩ := id hY
            have y0 := cy 0
            have y1 := cy 1
            have y2 := cy 2
            have y3 := cy 3
            have y4 := cy 4
            have y5 := cy 5
            simp at y0 y1 y2 y3 y4 y5
            have GW := hid gw
            have fx := fun o => grown_froz gw (Nat.le_refl w.heap.size) o
            have fy := fun o => grown_froz gw (Nat.le_succ w.heap.size) o
            have m1 : w.heap.size ≠ w.heap.size + 1 := by omega
            have m2 : w.heap.size + 1 ≠ w.heap.size := by omega
            have m3 : w.heap.size ≠ p := by omega
            have m4 : w.heap.size + 1 ≠ p := by omega
            have m5 : w.heap.size ≠ q := by omega
            have m6 : w.heap.size + 1 ≠ q := by omega
            clear hp hq hX hY gw cp cq cx cy
            go_wp2_with fail
            go_region
            all_goals
              go_wp2
              exact bodyPost_ret (v := .tuple #[ckV LX, ckV LY, .int .i64 0]) (by simp [results, Tryz.results42, go_sem, x0, x1, x2, x3, x4, x5, y0, y1, y2, y3, y4, y5, zx, zy, m1, m2, n1, n2, n3, n4, m3, m4, m5, m6]) rfl ⟨by rw [E.out, O1.out, O2.out], by repeat (first | with_reducible exact GW.out | with_reducible refine Grown.drew ?_ | with_reducible refine Grown.alloc ?_ _ _ | with_reducible refine Grown.setCell ?_ (Nat.le_refl _) _ | with_reducible refine Grown.setCell ?_ (Nat.le_succ _) _)⟩
  · have E := hid (show ofE z = 5 by unfold ofE; rw [if_pos hl])
    have N := hid (of_no z 5 E.out (by decide))
    have ML := row.1
    generalize z.length = n at *
    have b10 : ((n : Int) != 10) = true := by simp; omega
    clear row
    go_enter Tryz.func42, Tryz.ntmps42
    go_wp2
    exact bodyPost_ret (v := .tuple #[ckV ck0, ckV ck0, .int .i64 5]) (by simp [results, Tryz.results42, go_sem, ck0]) rfl ⟨by rw [E.out, N.out.1, N.out.2], by repeat (first | with_reducible exact Grown.refl _ | with_reducible refine Grown.alloc ?_ _ _ | with_reducible refine Grown.setCell ?_ (Nat.le_refl _) _ | with_reducible refine Grown.setCell ?_ (Nat.le_succ _) _)⟩
end Go.Proofs.YtfmddnekooojkaaGreatDoor
