/- What the document's answers of layer 9 come to: one. What the document's answers of layer 9 come to: Of. -/
import Derived.Test.YtfmddnekooojkaaGreatDoorG08
import Derived.Test.YtfmddnekooojkaaGreatDoorG04
import Derived.Deep.RegionHeld3
namespace Go.Proofs.YtfmddnekooojkaaGreatDoor
open Go.RowKit
set_option linter.unusedVariables false
set_option linter.unusedSimpArgs false

def oneBad (b0 b1 b2 b4 : Int) : Prop := 63 < b0 ∨ 63 < b1 ∨ 31 < b2 ∨ 1 < b4 % 64
def oneC (b0 b1 b2 b3 b4 : Int) : Ck := ⟨b0, b1, b2, b4 % 2 * 256 + b3, b4 / 64 % 2 == 1, decide (128 ≤ b4)⟩
set_option maxRecDepth 100000 in
set_option maxHeartbeats 8000000 in
theorem rone_any (b0 b1 b2 b3 b4 : Int) (x : Addr) (cap : Nat) (w : World) (i0 : InByte b0) (i1 : InByte b1) (i2 : InByte b2) (i3 : InByte b3) (i4 : InByte b4) (hx : x.block < w.heap.size)
    (c0 : w.cell? x = some (.int .u8 b0)) (c1 : w.cell? ⟨x.block, x.off + 1, none⟩ = some (.int .u8 b1)) (c2 : w.cell? ⟨x.block, x.off + 2, none⟩ = some (.int .u8 b2)) (c3 : w.cell? ⟨x.block, x.off + 3, none⟩ = some (.int .u8 b3)) (c4 : w.cell? ⟨x.block, x.off + 4, none⟩ = some (.int .u8 b4)) :
    Calls Tryz.prog 67 #[.slice (some x) 5 cap] w fun e w' => ((oneBad b0 b1 b2 b4 ∧ e = .returned (.tuple #[ckV ck0, .bool false])) ∨ (¬ oneBad b0 b1 b2 b4 ∧ e = .returned (.tuple #[ckV (oneC b0 b1 b2 b3 b4), .bool true]))) ∧ Grown w w' := by
  obtain ⟨p0, q0⟩ := i0
  obtain ⟨p1, q1⟩ := i1
  obtain ⟨p2, q2⟩ := i2
  obtain ⟨p3, q3⟩ := i3
  obtain ⟨p4, q4⟩ := i4
  have t1 : Int.tmod b4 64 = b4 % 64 := Int.tmod_eq_emod_of_nonneg p4
  have t2 : Int.tmod b4 2 = b4 % 2 := Int.tmod_eq_emod_of_nonneg p4
  have t3 : Int.tdiv b4 64 = b4 / 64 := Int.tdiv_eq_ediv_of_nonneg p4
  have t4 : Int.tmod (b4 / 64) 2 = b4 / 64 % 2 := Int.tmod_eq_emod_of_nonneg (by omega)
  have w1 : IntKind.u8.wrap (b4 % 64) = b4 % 64 := by rw [IntKind.wrap_u8]; omega
  have w2 : IntKind.u8.wrap (b4 % 2) = b4 % 2 := by rw [IntKind.wrap_u8]; omega
  have w3 : IntKind.u16.wrap (b4 % 2) = b4 % 2 := by rw [IntKind.wrap_u16]; omega
  have w4 : IntKind.u16.wrap (b4 % 2 * 256) = b4 % 2 * 256 := by rw [IntKind.wrap_u16]; omega
  have w5 : IntKind.u16.wrap b3 = b3 := by rw [IntKind.wrap_u16]; omega
  have w6 : IntKind.u16.wrap (b4 % 2 * 256 + b3) = b4 % 2 * 256 + b3 := by rw [IntKind.wrap_u16]; omega
  have w7 : IntKind.u8.wrap (b4 / 64) = b4 / 64 := by rw [IntKind.wrap_u8]; omega
  have w8 : IntKind.u8.wrap (b4 / 64 % 2) = b4 / 64 % 2 := by rw [IntKind.wrap_u8]; omega
  have z4 : b4 % 2 * 256 % 65536 = b4 % 2 * 256 := by omega
  have z6 : (b4 % 2 * 256 + b3) % 65536 = b4 % 2 * 256 + b3 := by omega
  have hx1 : x.block ≠ w.heap.size := by omega
  have hx2 : x.block < w.heap.size + 1 := by omega
  by_cases h0 : 63 < b0
  · have B := hid (show oneBad b0 b1 b2 b4 from .inl h0)
    have d0 : decide (63 < b0) = true := decide_eq_true h0
    go_enter Tryz.func67, Tryz.ntmps67
    go_wp2
    exact bodyPost_ret (v := .tuple #[ckV ck0, .bool false]) (by simp [results, Tryz.results67, go_sem, ck0]) rfl ⟨.inl ⟨B.out, rfl⟩, by repeat (first | with_reducible exact Grown.refl _ | with_reducible refine Grown.alloc ?_ _ _ | with_reducible refine Grown.setCell ?_ (Nat.le_refl _) _)⟩
  have d0 : decide (63 < b0) = false := decide_eq_false h0
  by_cases h1 : 63 < b1
  · have B := hid (show oneBad b0 b1 b2 b4 from .inr (.inl h1))
    have d1 : decide (63 < b1) = true := decide_eq_true h1
    go_enter Tryz.func67, Tryz.ntmps67
    go_wp2
    exact bodyPost_ret (v := .tuple #[ckV ck0, .bool false]) (by simp [results, Tryz.results67, go_sem, ck0]) rfl ⟨.inl ⟨B.out, rfl⟩, by repeat (first | with_reducible exact Grown.refl _ | with_reducible refine Grown.alloc ?_ _ _ | with_reducible refine Grown.setCell ?_ (Nat.le_refl _) _)⟩
  have d1 : decide (63 < b1) = false := decide_eq_false h1
  by_cases h2 : 31 < b2
  · have B := hid (show oneBad b0 b1 b2 b4 from .inr (.inr (.inl h2)))
    have d2 : decide (31 < b2) = true := decide_eq_true h2
    go_enter Tryz.func67, Tryz.ntmps67
    go_wp2
    exact bodyPost_ret (v := .tuple #[ckV ck0, .bool false]) (by simp [results, Tryz.results67, go_sem, ck0]) rfl ⟨.inl ⟨B.out, rfl⟩, by repeat (first | with_reducible exact Grown.refl _ | with_reducible refine Grown.alloc ?_ _ _ | with_reducible refine Grown.setCell ?_ (Nat.le_refl _) _)⟩
  have d2 : decide (31 < b2) = false := decide_eq_false h2
  by_cases h4 : 1 < b4 % 64
  · have B := hid (show oneBad b0 b1 b2 b4 from .inr (.inr (.inr h4)))
    have d4 : decide (1 < b4 % 64) = true := decide_eq_true h4
    go_enter Tryz.func67, Tryz.ntmps67
    go_wp2
    exact bodyPost_ret (v := .tuple #[ckV ck0, .bool false]) (by simp [results, Tryz.results67, go_sem, ck0]) rfl ⟨.inl ⟨B.out, rfl⟩, by repeat (first | with_reducible exact Grown.refl _ | with_reducible refine Grown.alloc ?_ _ _ | with_reducible refine Grown.setCell ?_ (Nat.le_refl _) _)⟩
  have d4 : decide (1 < b4 % 64) = false := decide_eq_false h4
  have B := hid (show ¬ oneBad b0 b1 b2 b4 by unfold oneBad; omega)
  go_enter Tryz.func67, Tryz.ntmps67
  go_wp2_with fail
  go_region_held3 (fun w' => x.block < w'.heap.size ∧ w'.cell? x = some (.int .u8 b0) ∧ w'.cell? ⟨x.block, x.off + 1, none⟩ = some (.int .u8 b1) ∧ w'.cell? ⟨x.block, x.off + 2, none⟩ = some (.int .u8 b2) ∧ w'.cell? ⟨x.block, x.off + 3, none⟩ = some (.int .u8 b3) ∧ w'.cell? ⟨x.block, x.off + 4, none⟩ = some (.int .u8 b4)) (go_keep) (fail)
  all_goals
    go_wp2
    exact bodyPost_ret (v := .tuple #[ckV (oneC b0 b1 b2 b3 b4), .bool true]) (by simp [results, Tryz.results67, go_sem, oneC]) rfl ⟨.inr ⟨B.out, rfl⟩, by repeat (first | with_reducible exact Grown.refl _ | with_reducible refine Grown.drew ?_ | with_reducible refine Grown.alloc ?_ _ _ | with_reducible refine Grown.setCell ?_ (Nat.le_refl _) _)⟩
end Go.Proofs.YtfmddnekooojkaaGreatDoor
namespace Go.Proofs.YtfmddnekooojkaaGreatDoor
open Go.RowKit
set_option linter.unusedVariables false
set_option linter.unusedSimpArgs false

abbrev badA (z : List Int) : Prop := 63 < z.getD 0 0 ∨ 63 < z.getD 1 0 ∨ 31 < z.getD 2 0 ∨ 1 < z.getD 4 0 % 64
abbrev badB (z : List Int) : Prop := 63 < z.getD 5 0 ∨ 63 < z.getD 6 0 ∨ 31 < z.getD 7 0 ∨ 1 < z.getD 9 0 % 64
def ofE (z : List Int) : Int := if z.length ≠ 10 then 5 else if badA z ∨ badB z then 6 else 0
def ofX (z : List Int) : Ck := if ofE z = 0 then oneC (z.getD 0 0) (z.getD 1 0) (z.getD 2 0) (z.getD 3 0) (z.getD 4 0) else ck0
def ofY (z : List Int) : Ck := if ofE z = 0 then oneC (z.getD 5 0) (z.getD 6 0) (z.getD 7 0) (z.getD 8 0) (z.getD 9 0) else ck0
theorem of_no (z : List Int) (n : Int) (h : ofE z = n) (h0 : n ≠ 0) : ofX z = ck0 ∧ ofY z = ck0 := by
  unfold ofX ofY; rw [h, if_neg h0, if_neg h0]; exact ⟨rfl, rfl⟩
theorem get_off9 {w : World} {x : Addr} {v : Value} {n : Nat} (h : w.cell? (x.add n) = some v) (hn : 0 < n) : w.cell? ⟨x.block, x.off + n, none⟩ = some v := by
  have e : x.add n = ⟨x.block, x.off + n, none⟩ := by unfold Addr.add; rw [if_neg (by omega)]
  rw [← e]; exact h
set_option maxRecDepth 100000 in
set_option maxHeartbeats 8000000 in
theorem rof_any (z : List Int) (a : Option Addr) (cap : Nat) (w : World) (row : Row w a z) (lc : z.length ≤ cap) (cm : cap ≤ maxLen) :
    Calls Tryz.prog 43 #[.slice a z.length cap] w fun e w' => e = .returned (.tuple #[ckV (ofX z), ckV (ofY z), .int .i64 (ofE z)]) ∧ Grown w w' := by
  by_cases hl : z.length = 10
  · obtain ⟨x, rfl, hx, hc⟩ := row_get row (by omega)
    have h0 := (hc 0 (by omega)).1
    rw [show x.add 0 = x from rfl] at h0
    have g : ∀ i, 0 < i → i < 10 → w.cell? ⟨x.block, x.off + i, none⟩ = some (.int .u8 (z.getD i 0)) := fun i h1 h2 => get_off9 (hc i (by omega)).1 h1
    have IB : ∀ i, i < 10 → InByte (z.getD i 0) := fun i hi => (hc i (by omega)).2
    have A := hid (fun u (gr : Grown w u) => rone_any (z.getD 0 0) (z.getD 1 0) (z.getD 2 0) (z.getD 3 0) (z.getD 4 0) x cap u (IB 0 (by decide)) (IB 1 (by decide)) (IB 2 (by decide)) (IB 3 (by decide)) (IB 4 (by decide)) (Nat.lt_of_lt_of_le hx gr.2.2)
      (((Kept.of gr).cell (x := x) hx).trans h0) (((Kept.of gr).cell (x := ⟨x.block, x.off + 1, none⟩) hx).trans (g 1 (by decide) (by decide))) (((Kept.of gr).cell (x := ⟨x.block, x.off + 2, none⟩) hx).trans (g 2 (by decide) (by decide))) (((Kept.of gr).cell (x := ⟨x.block, x.off + 3, none⟩) hx).trans (g 3 (by decide) (by decide))) (((Kept.of gr).cell (x := ⟨x.block, x.off + 4, none⟩) hx).trans (g 4 (by decide) (by decide))))
    have B := hid (fun u (gr : Grown w u) => rone_any (z.getD 5 0) (z.getD 6 0) (z.getD 7 0) (z.getD 8 0) (z.getD 9 0) ⟨x.block, x.off + 5, none⟩ (cap - 5) u (IB 5 (by decide)) (IB 6 (by decide)) (IB 7 (by decide)) (IB 8 (by decide)) (IB 9 (by decide)) (Nat.lt_of_lt_of_le hx gr.2.2)
      (((Kept.of gr).cell (x := ⟨x.block, x.off + 5, none⟩) hx).trans (g 5 (by decide) (by decide))) (((Kept.of gr).cell (x := ⟨x.block, x.off + 6, none⟩) hx).trans (g 6 (by decide) (by decide))) (((Kept.of gr).cell (x := ⟨x.block, x.off + 7, none⟩) hx).trans (g 7 (by decide) (by decide))) (((Kept.of gr).cell (x := ⟨x.block, x.off + 8, none⟩) hx).trans (g 8 (by decide) (by decide))) (((Kept.of gr).cell (x := ⟨x.block, x.off + 9, none⟩) hx).trans (g 9 (by decide) (by decide))))
    have EB := hid (fun (h : badA z ∨ badB z) => show ofE z = 6 by unfold ofE; rw [if_neg (by omega), if_pos h])
    have EN := hid (fun (h : ¬ (badA z ∨ badB z)) => show ofE z = 0 by unfold ofE; rw [if_neg (by omega), if_neg h])
    have OX := hid (fun (h : ofE z = 0) => (⟨by unfold ofX; rw [if_pos h], by unfold ofY; rw [if_pos h]⟩ : ofX z = oneC (z.getD 0 0) (z.getD 1 0) (z.getD 2 0) (z.getD 3 0) (z.getD 4 0) ∧ ofY z = oneC (z.getD 5 0) (z.getD 6 0) (z.getD 7 0) (z.getD 8 0) (z.getD 9 0)))
    have ON := hid (of_no z 6)
    change Hid (∀ u, Grown w u → Calls Tryz.prog 67 _ u fun e w' => ((badA z ∧ _) ∨ (¬ badA z ∧ _)) ∧ Grown u w') at A
    change Hid (∀ u, Grown w u → Calls Tryz.prog 67 _ u fun e w' => ((badB z ∧ _) ∨ (¬ badB z ∧ _)) ∧ Grown u w') at B
    generalize oneC (z.getD 0 0) (z.getD 1 0) (z.getD 2 0) (z.getD 3 0) (z.getD 4 0) = CX at *
    generalize oneC (z.getD 5 0) (z.getD 6 0) (z.getD 7 0) (z.getD 8 0) (z.getD 9 0) = CY at *
    rw [hl] at lc ⊢
    have k1 : (5 : Int) ≤ (cap : Int) := by omega
    have k2 : (5 : Int) ≠ (cap : Int) := by omega
    have k3 : (10 : Int) ≤ (cap : Int) := by omega
    clear h0 g IB hc row hl
    go_enter Tryz.func43, Tryz.ntmps43
    go_wp2_with fail
    refine (A.out _ ((alloc1 w _ _).alloc _ _)).mono ?_
    rintro e u1 ⟨h, g1⟩
    have G1 := hid (grown_trans ((alloc1 w _ _).alloc _ _) g1)
    have HX := hid (has_grown g1 (has_past (has_alloc w #[.int .u8 0, .int .u8 0, .int .u8 0, .int .u16 0, .bool false, .bool false] 35) (.cells #[.int .u8 0, .int .u8 0, .int .u8 0, .int .u16 0, .bool false, .bool false] 35)))
    have HY := hid (has_grown g1 (has_alloc (w.alloc (.cells #[.int .u8 0, .int .u8 0, .int .u8 0, .int .u16 0, .bool false, .bool false] 35)) #[.int .u8 0, .int .u8 0, .int .u8 0, .int .u16 0, .bool false, .bool false] 35))
    simp only [World.size_alloc] at HY
    clear g1
    obtain ⟨P, p, hP, rfl⟩ : ∃ (P : Ck) (p : Bool), ((p = true ∧ P = CX ∧ ¬ badA z) ∨ (p = false ∧ badA z)) ∧ e = .returned (.tuple #[ckV P, .bool p]) := by
      rcases h with ⟨h1, h2⟩ | ⟨h1, h2⟩
      · exact ⟨ck0, false, .inr ⟨rfl, h1⟩, h2⟩
      · exact ⟨CX, true, .inl ⟨rfl, rfl, h1⟩, h2⟩
    have PP := hid hP
    clear h hP
    go_wp2_with fail
    refine (B.out _ (G1.out.alloc _ _)).mono ?_
    rintro e u2 ⟨h, g2⟩
    have G2 := hid (grown_trans (G1.out.alloc _ _) g2)
    have HX2 := has_grown g2 (has_past HX.out (.cells #[.int .u8 P.sec, .int .u8 P.min, .int .u8 P.hour, .int .u16 P.day, .bool P.halt, .bool P.carry] 35))
    have HY2 := has_grown g2 (has_past HY.out (.cells #[.int .u8 P.sec, .int .u8 P.min, .int .u8 P.hour, .int .u16 P.day, .bool P.halt, .bool P.carry] 35))
    have HP2 := has_grown g2 (has_alloc u1 #[.int .u8 P.sec, .int .u8 P.min, .int .u8 P.hour, .int .u16 P.day, .bool P.halt, .bool P.carry] 35)
    obtain ⟨R, r, hR, rfl⟩ : ∃ (R : Ck) (r : Bool), ((r = true ∧ R = CY ∧ ¬ badB z) ∨ (r = false ∧ badB z)) ∧ e = .returned (.tuple #[ckV R, .bool r]) := by
      rcases h with ⟨h1, h2⟩ | ⟨h1, h2⟩
      · exact ⟨ck0, false, .inr ⟨rfl, h1⟩, h2⟩
      · exact ⟨CY, true, .inl ⟨rfl, rfl, h1⟩, h2⟩
    have RR := hid hR
    obtain ⟨zx, cx⟩ := id HX2
    obtain ⟨zy, cy⟩ := id HY2
    obtain ⟨zp, cp⟩ := id HP2
    have x0 := cx 0
    have x1 := cx 1
    have x2 := cx 2
    have x3 := cx 3
    have x4 := cx 4
    have x5 := cx 5
    have y0 := cy 0
    have y1 := cy 1
    have y2 := cy 2
    have y3 := cy 3
    have y4 := cy 4
    have y5 := cy 5
    have p0 := cp 0
    have p1 := cp 1
    have p2 := cp 2
    have p3 := cp 3
    have p4 := cp 4
    have p5 := cp 5
    simp at x0 x1 x2 x3 x4 x5 y0 y1 y2 y3 y4 y5 p0 p1 p2 p3 p4 p5
    have fx := fun o => grown_froz G2.out (Nat.le_refl w.heap.size) o
    have fy := fun o => grown_froz G2.out (Nat.le_succ w.heap.size) o
    have n1 : w.heap.size ≠ w.heap.size + 1 := by omega
    have n2 : w.heap.size + 1 ≠ w.heap.size := by omega
    have n3 : w.heap.size ≠ u2.heap.size := by omega
    have n4 : w.heap.size + 1 ≠ u2.heap.size := by omega
    have n5 : w.heap.size < u2.heap.size + 1 := by omega
    have n6 : w.heap.size + 1 < u2.heap.size + 1 := by omega
    have n7 : u1.heap.size ≠ w.heap.size := by have := HY.out.1; omega
    have n8 : u1.heap.size ≠ w.heap.size + 1 := by have := HY.out.1; omega
    have n9 : u1.heap.size ≠ u2.heap.size := by omega
    have na : u1.heap.size < u2.heap.size + 1 := by omega
    have nb : u2.heap.size ≠ w.heap.size := by omega
    have nc : u2.heap.size ≠ w.heap.size + 1 := by omega
    clear h hR g2 HX2 HY2 HP2 cx cy cp
    rcases PP.out with ⟨rfl, rfl, ha⟩ | ⟨rfl, ha⟩
    · rcases RR.out with ⟨rfl, rfl, hb⟩ | ⟨rfl, hb⟩
      · have E := hid (EN.out (fun q => q.elim ha hb))
        obtain ⟨o1, o2⟩ := OX.out E.out
        have O1 := hid o1
        have O2 := hid o2
        clear o1 o2
        go_wp2_with fail
        go_region
        all_goals
          go_wp2
          exact bodyPost_ret (v := .tuple #[ckV P, ckV R, .int .i64 0]) (by simp [results, Tryz.results43, go_sem, x0, x1, x2, x3, x4, x5, y0, y1, y2, y3, y4, y5, n1, n2, n3, n4, n5, n6, zx, zy]) rfl ⟨by rw [E.out, O1.out, O2.out], by repeat (first | with_reducible exact G2.out | with_reducible refine Grown.drew ?_ | with_reducible refine Grown.alloc ?_ _ _ | with_reducible refine Grown.setCell ?_ (Nat.le_refl _) _ | with_reducible refine Grown.setCell ?_ (Nat.le_succ _) _)⟩
      · have E := hid (EB.out (.inr hb))
        have N := hid (ON.out E.out (by decide))
        go_wp2
        exact bodyPost_ret (v := .tuple #[ckV ck0, ckV ck0, .int .i64 6]) (by simp [results, Tryz.results43, go_sem, ck0, x0, x1, x2, x3, x4, x5, y0, y1, y2, y3, y4, y5, n1, n2, n3, n4, n5, n6, zx, zy]) rfl ⟨by rw [E.out, N.out.1, N.out.2], by repeat (first | with_reducible exact G2.out | with_reducible refine Grown.drew ?_ | with_reducible refine Grown.alloc ?_ _ _ | with_reducible refine Grown.setCell ?_ (Nat.le_refl _) _ | with_reducible refine Grown.setCell ?_ (Nat.le_succ _) _)⟩
    · have E := hid (EB.out (.inl ha))
      have N := hid (ON.out E.out (by decide))
      go_wp2
      exact bodyPost_ret (v := .tuple #[ckV ck0, ckV ck0, .int .i64 6]) (by simp [results, Tryz.results43, go_sem, ck0, x0, x1, x2, x3, x4, x5, y0, y1, y2, y3, y4, y5, n1, n2, n3, n4, n5, n6, zx, zy]) rfl ⟨by rw [E.out, N.out.1, N.out.2], by repeat (first | with_reducible exact G2.out | with_reducible refine Grown.drew ?_ | with_reducible refine Grown.alloc ?_ _ _ | with_reducible refine Grown.setCell ?_ (Nat.le_refl _) _ | with_reducible refine Grown.setCell ?_ (Nat.le_succ _) _)⟩
  · have E := hid (show ofE z = 5 by unfold ofE; rw [if_pos hl])
    have N := hid (of_no z 5 E.out (by decide))
    have ML := row.1
    generalize z.length = n at *
    have b10 : ((n : Int) != 10) = true := by simp; omega
    clear row
    go_enter Tryz.func43, Tryz.ntmps43
    go_wp2
    exact bodyPost_ret (v := .tuple #[ckV ck0, ckV ck0, .int .i64 5]) (by simp [results, Tryz.results43, go_sem, ck0]) rfl ⟨by rw [E.out, N.out.1, N.out.2], by repeat (first | with_reducible exact Grown.refl _ | with_reducible refine Grown.alloc ?_ _ _ | with_reducible refine Grown.setCell ?_ (Nat.le_refl _) _ | with_reducible refine Grown.setCell ?_ (Nat.le_succ _) _)⟩
end Go.Proofs.YtfmddnekooojkaaGreatDoor
