/- Layer 13: PadLines, Reads, Steps, Rows, Held, as walks. -/
import Derived.Test.YtgmncbjanpmmkaaSw13
namespace Go.Proofs.Ytgmncbjanpmmkaa
open Go.RowKit
set_option linter.unusedVariables false
set_option linter.unusedSimpArgs false

set_option maxRecDepth 100000 in
set_option maxHeartbeats 4000000 in
theorem lines13 (p : Pd) (keys : Int) (w : World) (I : PdIn p) (k0 : 0 ≤ keys) (k1 : keys ≤ 255) : Calls Try.prog 3 #[pdV p, .int .u8 keys] w fun e w' => e = .returned (.bool true) ∧ Kept w w' := by
  have S := hid kshown13
  have A := hid (fun u => plines13 p keys u I k0 k1)
  have B := hid (fun u => rlines13 p keys u I k0 k1)
  obtain ⟨ps, pl⟩ := p
  try simp only at *
  generalize linesP ps keys = V at *
  clear I
  go_enter Try.func3, Try.ntmps3
  go_wp2_with fail
  refine (S.out _).mono ?_
  rintro e u1 ⟨rfl, k1⟩
  have P1 := hid (show Blk u1 w.heap.size 23 [.int .u8 ps, .int .u8 pl] from blk_kept k1 (blk_new w _ _))
  have K1 := hid (((Kept.refl w).alloc (.cells ([.int .u8 ps, .int .u8 pl] : List Value).toArray 23)).trans k1)
  have c1 := blk_cell P1.out
  clear k1
  go_wp2_with fail
  go_region_held3 (fun w' => w'.cell? ⟨w.heap.size, 0, none⟩ = some (.int .u8 ps) ∧ w'.cell? ⟨w.heap.size, 1, none⟩ = some (.int .u8 pl)) (go_keep) (first | (go_at_call 9; refine (A.out _).mono ?_; rintro e v2 ⟨rfl, q2⟩; have B2 := hid (blk_kept q2 (blk_drew P1.out)); have c2 := blk_cell B2.out; have Z2 := hid (K1.out.drew.trans q2); clear q2) | (go_at_call 10; refine (B.out _).mono ?_; rintro e v3 ⟨rfl, q3⟩; have B3 := hid (blk_kept q3 B2.out); have c3 := blk_cell B3.out; have Z3 := hid (Z2.out.trans q3); clear q3))
  all_goals
    go_wp2
    go_ret
    exact ⟨rfl, Z3.out⟩
set_option maxRecDepth 100000 in
set_option maxHeartbeats 4000000 in
theorem reads13 (p : Pd) (keys v : Int) (w : World) (I : PdIn p) (k0 : 0 ≤ keys) (k1 : keys ≤ 255) (v0 : 0 ≤ v) (v1 : v ≤ 255) : Calls Try.prog 4 #[pdV p, .int .u8 keys, .int .u8 v] w fun e w' => e = .returned (.bool true) ∧ Kept w w' := by
  have S := hid kshown13
  have A := hid (fun u => pread13 p keys u I k0 k1)
  have B := hid (fun u => rread13 p keys u I k0 k1)
  have C := hid (fun u => pwrite13 p v u I v0 v1)
  have D := hid (fun u => rwrite13 p v u I v0 v1)
  generalize readP p keys = V at *
  generalize writeP p v = X at *
  obtain ⟨ps, pl⟩ := p
  try simp only at *
  clear I
  go_enter Try.func4, Try.ntmps4
  go_wp2_with fail
  refine (S.out _).mono ?_
  rintro e u1 ⟨rfl, k1⟩
  have P1 := hid (show Blk u1 w.heap.size 23 [.int .u8 ps, .int .u8 pl] from blk_kept k1 (blk_new w _ _))
  have K1 := hid (((Kept.refl w).alloc (.cells ([.int .u8 ps, .int .u8 pl] : List Value).toArray 23)).trans k1)
  have c1 := blk_cell P1.out
  clear k1
  go_wp2_with fail
  go_region_held3 (fun w' => w'.cell? ⟨w.heap.size, 0, none⟩ = some (.int .u8 ps) ∧ w'.cell? ⟨w.heap.size, 1, none⟩ = some (.int .u8 pl)) (go_keep) (first | (go_at_call 11; refine (A.out _).mono ?_; rintro e v2 ⟨rfl, q2⟩; have B2 := hid (blk_kept q2 (blk_drew P1.out)); have c2 := blk_cell B2.out; have Z2 := hid (K1.out.drew.trans q2); clear q2) | (go_at_call 12; refine (B.out _).mono ?_; rintro e v3 ⟨rfl, q3⟩; have B3 := hid (blk_kept q3 B2.out); have c3 := blk_cell B3.out; have Z3 := hid (Z2.out.trans q3); clear q3) | (go_at_call 13; refine (C.out _).mono ?_; rintro e v4 ⟨rfl, q4⟩; have B4 := hid (blk_kept q4 B3.out); have c4 := blk_cell B4.out; have Z4 := hid (Z3.out.trans q4); clear q4) | (go_at_call 14; refine (D.out _).mono ?_; rintro e v5 ⟨rfl, q5⟩; have B5 := hid (blk_kept q5 B4.out); have c5 := blk_cell B5.out; have Z5 := hid (Z4.out.trans q5); clear q5))
  all_goals
    go_wp2
    go_ret
    exact ⟨rfl, Z5.out⟩
set_option maxRecDepth 100000 in
set_option maxHeartbeats 4000000 in
theorem steps13 (p : Pd) (keys : Int) (w : World) (I : PdIn p) (k0 : 0 ≤ keys) (k1 : keys ≤ 255) : Calls Try.prog 5 #[pdV p, .int .u8 keys] w fun e w' => e = .returned (.bool true) ∧ Kept w w' := by
  have S := hid kshown13
  have A := hid (fun u => pstep13 p keys u I k0 k1)
  have B := hid (fun u => rstep13 p keys u I k0 k1)
  generalize stepP p keys = V at *
  generalize askP p keys = Q at *
  obtain ⟨ps, pl⟩ := p
  try simp only at *
  clear I
  go_enter Try.func5, Try.ntmps5
  go_wp2_with fail
  refine (S.out _).mono ?_
  rintro e u1 ⟨rfl, k1⟩
  have P1 := hid (show Blk u1 w.heap.size 23 [.int .u8 ps, .int .u8 pl] from blk_kept k1 (blk_new w _ _))
  have K1 := hid (((Kept.refl w).alloc (.cells ([.int .u8 ps, .int .u8 pl] : List Value).toArray 23)).trans k1)
  have c1 := blk_cell P1.out
  clear k1
  go_wp2_with fail
  refine (A.out _).mono ?_
  rintro e u2 ⟨rfl, k2⟩
  have K2 := hid ((K1.out.trans k2).alloc (.cells ([.int .u8 V.sel, .int .u8 V.last] : List Value).toArray 23))
  have P2 := hid (blk_past (blk_kept k2 P1.out) (.cells ([.int .u8 V.sel, .int .u8 V.last] : List Value).toArray 23))
  have V2 := hid (blk_new u2 [.int .u8 V.sel, .int .u8 V.last] 23)
  have c2 := blk_cell P2.out
  have c2b := blk_cell (blk_kept k2 P1.out)
  have z2 : w.heap.size ≠ u2.heap.size := by have := blk_lt (blk_kept k2 P1.out); omega
  clear k2 P1 K1 c1
  go_wp2_with fail
  refine (B.out _).mono ?_
  rintro e u3 ⟨rfl, k3⟩
  have K3 := hid ((K2.out.trans k3).alloc (.cells ([.int .u8 V.sel, .int .u8 V.last] : List Value).toArray 23))
  have c3 := blk_cell (blk_kept k3 V2.out)
  have z3 : u2.heap.size ≠ u3.heap.size := by have := blk_lt (blk_kept k3 V2.out); omega
  have c4 := blk_cell (blk_past (blk_kept k3 V2.out) (.cells ([.int .u8 V.sel, .int .u8 V.last] : List Value).toArray 23))
  have c5 := blk_cell (blk_new u3 [.int .u8 V.sel, .int .u8 V.last] 23)
  clear k3 P2 K2 c2 c2b
  go_wp2
  go_ret
  exact ⟨rfl, K3.out⟩
set_option maxRecDepth 100000 in
set_option maxHeartbeats 4000000 in
theorem rows13 (keys : Int) (w : World) (k0 : 0 ≤ keys) (k1 : keys ≤ 255) : Calls Try.prog 6 #[.int .u8 keys] w fun e w' => e = .returned (.bool true) ∧ Kept w w' := by
  have S := hid kshown13
  have W1 := hid (fun u => pwrite13 ⟨0, 0⟩ 32 u (in13 _ _ (by decide)) (by decide) (by decide))
  rw [show writeP ⟨0, 0⟩ 32 = ⟨32, 0⟩ from rfl] at W1
  have W2 := hid (fun u => plines13 ⟨32, 0⟩ keys u (in13 _ _ (by decide)) k0 k1)
  simp only [one_all keys k0 k1] at W2
  have X1 := hid (fun u => pwrite13 ⟨0, 0⟩ 16 u (in13 _ _ (by decide)) (by decide) (by decide))
  rw [show writeP ⟨0, 0⟩ 16 = ⟨16, 0⟩ from rfl] at X1
  have X2 := hid (fun u => plines13 ⟨16, 0⟩ keys u (in13 _ _ (by decide)) k0 k1)
  simp only [two_all keys k0 k1] at X2
  have Y1 := hid (fun u => pwrite13 ⟨0, 0⟩ 0 u (in13 _ _ (by decide)) (by decide) (by decide))
  rw [show writeP ⟨0, 0⟩ 0 = ⟨0, 0⟩ from rfl] at Y1
  have Y2 := hid (fun u => plines13 ⟨0, 0⟩ keys u (in13 _ _ (by decide)) k0 k1)
  simp only [both_all keys k0 k1] at Y2
  have Z1 := hid (fun u => pwrite13 ⟨0, 0⟩ 48 u (in13 _ _ (by decide)) (by decide) (by decide))
  rw [show writeP ⟨0, 0⟩ 48 = ⟨48, 0⟩ from rfl] at Z1
  have Z2 := hid (fun u => plines13 ⟨48, 0⟩ keys u (in13 _ _ (by decide)) k0 k1)
  simp only [none_all keys k0 k1] at Z2
  have e1 : Int.tmod keys 16 = keys % 16 := Int.tmod_eq_emod_of_nonneg k0
  have e2 : Int.tdiv keys 16 = keys / 16 := Int.tdiv_eq_ediv_of_nonneg k0
  have e3 : IntKind.u8.wrap (keys / 16) = keys / 16 := by rw [IntKind.wrap_u8]; omega
  have e4 : IntKind.u8.wrap (15 - keys % 16) = 15 - keys % 16 := by rw [IntKind.wrap_u8]; omega
  have e5 : IntKind.u8.wrap (15 - keys / 16) = 15 - keys / 16 := by rw [IntKind.wrap_u8]; omega
  go_enter Try.func6, Try.ntmps6
  go_wp2_with fail
  refine (S.out _).mono ?_
  rintro e u0 ⟨rfl, q0⟩
  go_wp2_with fail
  refine (W1.out _).mono ?_
  rintro e u1 ⟨rfl, r1⟩
  have q1 := q0.trans r1
  clear r1 q0
  go_wp2_with fail
  refine (W2.out _).mono ?_
  rintro e u2 ⟨rfl, r2⟩
  have q2 := q1.trans r2
  clear r2 q1
  go_wp2_with fail
  refine (X1.out _).mono ?_
  rintro e u3 ⟨rfl, r3⟩
  have q3 := q2.trans r3
  clear r3 q2
  go_wp2_with fail
  refine (X2.out _).mono ?_
  rintro e u4 ⟨rfl, r4⟩
  have q4 := q3.trans r4
  clear r4 q3
  go_wp2_with fail
  refine (Y1.out _).mono ?_
  rintro e u5 ⟨rfl, r5⟩
  have q5 := q4.trans r5
  clear r5 q4
  go_wp2_with fail
  refine (Y2.out _).mono ?_
  rintro e u6 ⟨rfl, r6⟩
  have q6 := q5.trans r6
  clear r6 q5
  go_wp2_with fail
  refine (Z1.out _).mono ?_
  rintro e u7 ⟨rfl, r7⟩
  have q7 := q6.trans r7
  clear r7 q6
  go_wp2_with fail
  refine (Z2.out _).mono ?_
  rintro e u8 ⟨rfl, r8⟩
  have q8 := q7.trans r8
  clear r8 q7
  go_wp2
  go_ret
  exact ⟨rfl, q8⟩
set_option maxRecDepth 100000 in
set_option maxHeartbeats 4000000 in
theorem held13 (p : Pd) (keys n : Int) (w : World) (I : PdIn p) (k0 : 0 ≤ keys) (k1 : keys ≤ 255) (n0 : 0 ≤ n) (n1 : n ≤ 255) : Calls Try.prog 7 #[pdV p, .int .u8 keys, .int .u8 n] w fun e w' => e = .returned (.bool true) ∧ Kept w w' := by
  have S := hid kshown13
  obtain ⟨ps, pl⟩ := p
  have s0 := I.s0
  have s1 := I.s1
  have l0 := I.l0
  have l1 := I.l1
  simp only at s0 s1 l0 l1
  obtain ⟨m0, m1⟩ := lines_in ps keys k0 k1
  have A : Hid (∀ u, Calls Try.prog 15 #[.agg #[.int .u8 ps, .int .u8 pl], .int .u8 keys] u fun e w' => e = .returned (.tuple #[.agg #[.int .u8 ps, .int .u8 (linesP ps keys)], .bool (fellP pl (linesP ps keys))]) ∧ Kept u w') := fun u => pstep13 ⟨ps, pl⟩ keys u I k0 k1
  have B : Hid (∀ u, Calls Try.prog 15 #[.agg #[.int .u8 ps, .int .u8 (linesP ps keys)], .int .u8 keys] u fun e w' => e = .returned (.tuple #[.agg #[.int .u8 ps, .int .u8 (linesP ps keys)], .bool false]) ∧ Kept u w') := fun u => by
    have q := pstep13 ⟨ps, linesP ps keys⟩ keys u (in13 _ _ ⟨s0, s1, m0, by omega⟩) k0 k1
    rw [show askP ⟨ps, linesP ps keys⟩ keys = false from stay _] at q
    exact q
  have C : Hid (∀ u, Calls Try.prog 15 #[.agg #[.int .u8 ps, .int .u8 (linesP ps keys)], .int .u8 0] u fun e w' => e = .returned (.tuple #[.agg #[.int .u8 ps, .int .u8 15], .bool false]) ∧ Kept u w') := fun u => by
    have q := pstep13 ⟨ps, linesP ps keys⟩ 0 u (in13 _ _ ⟨s0, s1, m0, by omega⟩) (by decide) (by decide)
    have e1 : stepP ⟨ps, linesP ps keys⟩ 0 = ⟨ps, 15⟩ := by show (⟨ps, linesP ps 0⟩ : Pd) = _; rw [free_all]
    have e2 : askP ⟨ps, linesP ps keys⟩ 0 = false := by show fellP _ (linesP ps 0) = false; rw [free_all]; exact up_no _ m0 (by show linesP ps keys ≤ 255; omega)
    rw [e1, e2] at q
    exact q
  have D : Hid (∀ u, Calls Try.prog 15 #[.agg #[.int .u8 ps, .int .u8 15], .int .u8 keys] u fun e w' => e = .returned (.tuple #[.agg #[.int .u8 ps, .int .u8 (linesP ps keys)], .bool (linesP ps keys != 15)]) ∧ Kept u w') := fun u => by
    have q := pstep13 ⟨ps, 15⟩ keys u (in13 _ _ ⟨s0, s1, (by decide : (0 : Int) ≤ 15), (by decide : (15 : Int) ≤ 255)⟩) k0 k1
    rw [show askP ⟨ps, 15⟩ keys = (linesP ps keys != 15) from again_eq _ m0 m1] at q
    exact q
  have E : Hid (∀ u, Calls Try.prog 9 #[.agg #[.int .u8 ps, .int .u8 pl], .int .u8 keys] u fun e w' => e = .returned (.int .u8 (linesP ps keys)) ∧ Kept u w') := fun u => plines13 ⟨ps, pl⟩ keys u I k0 k1
  have FL := first_low pl (linesP ps keys) l0 l1
  generalize linesP ps keys = L at *
  generalize fellP pl L = fe at *
  have t1 : Int.tmod n 20 = n % 20 := Int.tmod_eq_emod_of_nonneg n0
  obtain ⟨N, hN⟩ : ∃ N : Nat, n % 20 = (N : Int) := ⟨(n % 20).toNat, by omega⟩
  have N20 : N < 20 := by omega
  rw [hN] at t1
  clear hN I
  go_enter Try.func7, Try.ntmps7
  go_wp2_with fail
  refine (S.out _).mono ?_
  rintro e u1 ⟨rfl, k1⟩
  have P1 := hid (show Blk u1 w.heap.size 23 [.int .u8 ps, .int .u8 pl] from blk_kept k1 (blk_new w _ _))
  have K1 := hid (((Kept.refl w).alloc (.cells ([.int .u8 ps, .int .u8 pl] : List Value).toArray 23)).trans k1)
  have c1 := blk_cell P1.out
  clear k1
  go_wp2_with fail
  refine (A.out _).mono ?_
  rintro e u2 ⟨rfl, k2⟩
  have K2 := hid ((K1.out.trans k2).alloc (.cells ([.int .u8 ps, .int .u8 L] : List Value).toArray 23))
  have P2 := hid (blk_past (blk_kept k2 P1.out) (.cells ([.int .u8 ps, .int .u8 L] : List Value).toArray 23))
  have V2 := hid (blk_new u2 [.int .u8 ps, .int .u8 L] 23)
  have z2 : w.heap.size < u2.heap.size := blk_lt (blk_kept k2 P1.out)
  obtain ⟨ba, hba⟩ : ∃ b, u2.heap.size = b := ⟨_, rfl⟩
  clear k2 P1 K1 c1
  go_wp2_with fail
  rw [hba] at V2 z2
  try rw [hba]
  go_loopw [10] (fun iv wr => ∃ j : Nat, j ≤ N ∧ iv = .int .u8 (j : Int) ∧ Blk wr w.heap.size 23 [.int .u8 ps, .int .u8 pl] ∧ Blk wr ba 23 [.int .u8 ps, .int .u8 L] ∧ Kept w wr) (fun iv _ => 20 - (intOf iv).toNat)
  case atStart => exact ⟨0, Nat.zero_le _, rfl, P2.out, V2.out, K2.out⟩
  case round =>
    obtain ⟨j, hj, rfl, hp, hv, hk⟩ := hrel
    have KK := hid hk
    have PP := hid hp
    have VV := hid hv
    have cp := blk_cell hp
    have cv := blk_cell hv
    clear hp hv hk P2 V2 K2
    by_cases hlt : j < N
    · have g1 : decide ((j : Int) < (N : Int)) = true := decide_eq_true (by omega)
      have e1 : IntKind.u8.wrap ((j : Int) + 1) = (j : Int) + 1 := by rw [IntKind.wrap_u8]; omega
      go_wp2_with fail
      refine (B.out _).mono ?_
      rintro e u3 ⟨rfl, k3⟩
      have K3 := hid ((KK.out.trans k3).alloc (.cells ([.int .u8 ps, .int .u8 L] : List Value).toArray 23))
      have P3 := hid (blk_past (blk_kept k3 PP.out) (.cells ([.int .u8 ps, .int .u8 L] : List Value).toArray 23))
      have V3 := hid (blk_past (blk_kept k3 VV.out) (.cells ([.int .u8 ps, .int .u8 L] : List Value).toArray 23))
      have W3 := hid (blk_new u3 [.int .u8 ps, .int .u8 L] 23)
      have c3 := blk_cell V3.out
      have d3 := blk_cell (blk_kept k3 VV.out)
      have y3 := blk_cell W3.out
      have z3 : ba ≠ u3.heap.size := by have := blk_lt (blk_kept k3 VV.out); omega
      clear k3 KK PP VV cp cv
      go_wp2_with fail
      go_roundw
      case rel => exact ⟨j + 1, by omega, by first | go_num | rfl, P3.out, V3.out, K3.out⟩
      case measure => first | omega | (simp; omega) | (simp [intOf]; omega)
    · have g1 : decide ((j : Int) < (N : Int)) = false := decide_eq_false (by omega)
      have g2 : decide (j < N) = false := decide_eq_false hlt
      go_wp2_with fail
      with_reducible refine (C.out _).mono ?_
      rintro e u3 ⟨rfl, k3⟩
      have K3 := hid ((KK.out.trans k3).alloc (.cells ([.int .u8 ps, .int .u8 15] : List Value).toArray 23))
      have P3 := hid (blk_past (blk_kept k3 PP.out) (.cells ([.int .u8 ps, .int .u8 15] : List Value).toArray 23))
      have V3 := hid (blk_past (blk_kept k3 VV.out) (.cells ([.int .u8 ps, .int .u8 15] : List Value).toArray 23))
      have F3 := hid (blk_new u3 [.int .u8 ps, .int .u8 15] 23)
      have y3 := blk_cell F3.out
      have z3 : ba ≠ u3.heap.size := by have := blk_lt (blk_kept k3 VV.out); omega
      have z3w : w.heap.size ≠ u3.heap.size := by have := blk_lt (blk_kept k3 PP.out); omega
      clear k3 KK PP VV cp cv
      go_wp2_with fail
      refine (D.out _).mono ?_
      rintro e u4 ⟨rfl, k4⟩
      have K4 := hid ((K3.out.trans k4).alloc (.cells ([.int .u8 ps, .int .u8 L] : List Value).toArray 23))
      have P4 := hid (blk_past (blk_kept k4 P3.out) (.cells ([.int .u8 ps, .int .u8 L] : List Value).toArray 23))
      have V4 := hid (blk_past (blk_kept k4 V3.out) (.cells ([.int .u8 ps, .int .u8 L] : List Value).toArray 23))
      have F4 := hid (blk_past (blk_kept k4 F3.out) (.cells ([.int .u8 ps, .int .u8 L] : List Value).toArray 23))
      have W4 := hid (blk_new u4 [.int .u8 ps, .int .u8 L] 23)
      have c4 := blk_cell P4.out
      have d4 := blk_cell (blk_kept k4 P3.out)
      have z4 : w.heap.size ≠ u4.heap.size := by have := blk_lt (blk_kept k4 P3.out); omega
      have z4a : ba ≠ u4.heap.size := by have := blk_lt (blk_kept k4 V3.out); omega
      have z4f : u3.heap.size ≠ u4.heap.size := by have := blk_lt (blk_kept k4 F3.out); omega
      clear k4 K3 P3 V3 F3 y3
      go_wp2_with fail
      refine (E.out _).mono ?_
      rintro e u5 ⟨rfl, k5⟩
      have K5 := hid (K4.out.trans k5)
      have cv := blk_cell (blk_kept k5 V4.out)
      have cf := blk_cell (blk_kept k5 F4.out)
      have cw := blk_cell (blk_kept k5 W4.out)
      clear k5 K4 P4 V4 F4 W4 c4 d4
      cases fe
      · go_wp2
        go_ret
        exact ⟨rfl, K5.out⟩
      · have ln : (L != 15) = true := by simpa using FL
        rw [ln]
        go_wp2
        go_ret
        exact ⟨rfl, K5.out⟩
end Go.Proofs.Ytgmncbjanpmmkaa
