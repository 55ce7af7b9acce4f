/- Layer 12: SerialSteps, Reads, Writes, Idle, as walks. -/
import Derived.Test.YtblagmninenapaaSw12
namespace Go.Proofs.Ytblagmninenapaa
open Go.RowKit
set_option linter.unusedVariables false
set_option linter.unusedSimpArgs false

set_option maxRecDepth 100000 in
set_option maxHeartbeats 4000000 in
theorem reads12 (s : Sr) (a : Int) (w : World) (I : SrIn s) (a0 : 0 ≤ a) (a1 : a ≤ 65535) : Calls Try.prog 4 #[srV s, .int .u16 a] w fun e w' => e = .returned (.bool true) ∧ Kept w w' := by
  have S := hid kshown12
  have A := hid (fun u => pread12 s a u I a0 a1)
  have B := hid (fun u => rread12 s a u I a0 a1)
  generalize readS s a = V at *
  obtain ⟨sd, sc, sl, sp⟩ := s
  try simp only at A B
  clear I
  go_enter Try.func4, Try.ntmps4
  go_wp2_with fail
  refine (S.out _).mono ?_
  rintro e u1 ⟨rfl, k1⟩
  have P1 := hid (show Blk u1 w.heap.size 23 [.int .u8 sd, .int .u8 sc, .int .u8 sl, .int .u8 sp] from blk_kept k1 (blk_new w _ _))
  have K1 := hid (((Kept.refl w).alloc (.cells ([.int .u8 sd, .int .u8 sc, .int .u8 sl, .int .u8 sp] : List Value).toArray 23)).trans k1)
  have c1 := blk_cell P1.out
  clear k1
  go_wp2_with fail
  go_region_held3 (fun w' => w'.cell? ⟨w.heap.size, 0, none⟩ = some (.int .u8 sd) ∧ w'.cell? ⟨w.heap.size, 1, none⟩ = some (.int .u8 sc) ∧ w'.cell? ⟨w.heap.size, 2, none⟩ = some (.int .u8 sl) ∧ w'.cell? ⟨w.heap.size, 3, none⟩ = some (.int .u8 sp)) (go_keep) (first | (go_at_call 12; refine (A.out _).mono ?_; rintro e v1 ⟨rfl, q1⟩; have c2 := blk_cell (blk_kept q1 (blk_drew P1.out)); have KZ := hid (K1.out.drew.trans q1)) | (go_at_call 13; refine (B.out _).mono ?_; rintro e v2 ⟨rfl, q2⟩; have c3 := blk_cell (blk_kept q2 (blk_kept q1 (blk_drew P1.out))); have KY := hid (KZ.out.trans q2)))
  all_goals
    go_wp2
    go_ret
    exact ⟨rfl, KY.out⟩
set_option maxRecDepth 100000 in
set_option maxHeartbeats 4000000 in
theorem writes12 (s : Sr) (a v : Int) (w : World) (I : SrIn s) (a0 : 0 ≤ a) (a1 : a ≤ 65535) (v0 : 0 ≤ v) (v1 : v ≤ 255) : Calls Try.prog 5 #[srV s, .int .u16 a, .int .u8 v] w fun e w' => e = .returned (.bool true) ∧ Kept w w' := by
  have S := hid kshown12
  have A := hid (fun u => pwrite12 s a v u I a0 a1 v0 v1)
  have B := hid (fun u => rwrite12 s a v u I a0 a1 v0 v1)
  generalize writeS s a v = V at *
  obtain ⟨sd, sc, sl, sp⟩ := s
  try simp only at A B
  clear I
  go_enter Try.func5, Try.ntmps5
  go_wp2_with fail
  refine (S.out _).mono ?_
  rintro e u1 ⟨rfl, k1⟩
  have P1 := hid (show Blk u1 w.heap.size 23 [.int .u8 sd, .int .u8 sc, .int .u8 sl, .int .u8 sp] from blk_kept k1 (blk_new w _ _))
  have K1 := hid (((Kept.refl w).alloc (.cells ([.int .u8 sd, .int .u8 sc, .int .u8 sl, .int .u8 sp] : List Value).toArray 23)).trans k1)
  have c1 := blk_cell P1.out
  clear k1
  go_wp2_with fail
  go_region_held3 (fun w' => w'.cell? ⟨w.heap.size, 0, none⟩ = some (.int .u8 sd) ∧ w'.cell? ⟨w.heap.size, 1, none⟩ = some (.int .u8 sc) ∧ w'.cell? ⟨w.heap.size, 2, none⟩ = some (.int .u8 sl) ∧ w'.cell? ⟨w.heap.size, 3, none⟩ = some (.int .u8 sp)) (go_keep) (first | (go_at_call 14; refine (A.out _).mono ?_; rintro e v1 ⟨rfl, q1⟩; have c2 := blk_cell (blk_kept q1 (blk_drew P1.out)); have KZ := hid (K1.out.drew.trans q1)) | (go_at_call 15; refine (B.out _).mono ?_; rintro e v2 ⟨rfl, q2⟩; have c3 := blk_cell (blk_kept q2 (blk_kept q1 (blk_drew P1.out))); have KY := hid (KZ.out.trans q2)))
  all_goals
    go_wp2
    go_ret
    exact ⟨rfl, KY.out⟩
set_option maxRecDepth 100000 in
set_option maxHeartbeats 4000000 in
theorem steps12 (s : Sr) (b edge : Bool) (w : World) (I : SrIn s) : Calls Try.prog 3 #[srV s, .bool b, .bool edge] w fun e w' => e = .returned (.bool true) ∧ Kept w w' := by
  have S := hid kshown12
  have A := hid (fun u => pstep12 s b edge u I)
  have B := hid (fun u => rstep12 s b edge u I)
  generalize stepS s b edge = V at *
  generalize askS s edge = Q at *
  generalize outS s = X at *
  obtain ⟨sd, sc, sl, sp⟩ := s
  try simp only at A B
  clear I
  go_enter Try.func3, Try.ntmps3
  go_wp2_with fail
  refine (S.out _).mono ?_
  rintro e u1 ⟨rfl, k1⟩
  have P1 := hid (show Blk u1 w.heap.size 23 [.int .u8 sd, .int .u8 sc, .int .u8 sl, .int .u8 sp] from blk_kept k1 (blk_new w _ _))
  have K1 := hid (((Kept.refl w).alloc (.cells ([.int .u8 sd, .int .u8 sc, .int .u8 sl, .int .u8 sp] : List Value).toArray 23)).trans k1)
  have c1 := blk_cell P1.out
  clear k1
  go_wp2_with fail
  refine (A.out _).mono ?_
  rintro e u2 ⟨rfl, k2⟩
  have K2 := hid ((K1.out.trans k2).alloc (.cells ([.int .u8 V.data, .int .u8 V.ctl, .int .u8 V.left, .int .u8 V.ph] : List Value).toArray 23))
  have P2 := hid (blk_past (blk_kept k2 P1.out) (.cells ([.int .u8 V.data, .int .u8 V.ctl, .int .u8 V.left, .int .u8 V.ph] : List Value).toArray 23))
  have V2 := hid (blk_new u2 [.int .u8 V.data, .int .u8 V.ctl, .int .u8 V.left, .int .u8 V.ph] 23)
  have c2 := blk_cell P2.out
  have c2b := blk_cell (blk_kept k2 P1.out)
  have z2 : w.heap.size ≠ u2.heap.size := by have := blk_lt (blk_kept k2 P1.out); omega
  clear k2 P1 K1 c1
  go_wp2_with fail
  refine (B.out _).mono ?_
  rintro e u3 ⟨rfl, k3⟩
  have K3 := hid ((K2.out.trans k3).alloc (.cells ([.int .u8 V.data, .int .u8 V.ctl, .int .u8 V.left, .int .u8 V.ph] : List Value).toArray 23))
  have c3 := blk_cell (blk_kept k3 V2.out)
  have z3 : u2.heap.size ≠ u3.heap.size := by have := blk_lt (blk_kept k3 V2.out); omega
  have c4 := blk_cell (blk_past (blk_kept k3 V2.out) (.cells ([.int .u8 V.data, .int .u8 V.ctl, .int .u8 V.left, .int .u8 V.ph] : List Value).toArray 23))
  have c5 := blk_cell (blk_new u3 [.int .u8 V.data, .int .u8 V.ctl, .int .u8 V.left, .int .u8 V.ph] 23)
  clear k3 P2 K2 c2 c2b
  go_wp2
  go_ret
  exact ⟨rfl, K3.out⟩
set_option maxRecDepth 100000 in
set_option maxHeartbeats 4000000 in
theorem idle12_a (s : Sr) (b edge : Bool) (w : World) (I : SrIn s) (q : s.ctl < 128) : Calls Try.prog 6 #[srV s, .bool b, .bool edge] w fun e w' => e = .returned (.bool true) ∧ Kept w w' := by
  have S := hid kshown12
  have J : SrIn ⟨s.data, s.ctl, s.left, s.ph⟩ := ⟨I.d0, I.d1, by show 0 ≤ s.ctl; have := I.c0; omega, by show s.ctl ≤ 255; have := I.c1; omega, I.l0, I.l1, I.p0, I.p1⟩
  have A := hid (fun u => pstep12 ⟨s.data, s.ctl, s.left, s.ph⟩ b edge u J)
  have NG : goesS ⟨s.data, s.ctl, s.left, s.ph⟩ = false := by
    cases h : goesS ⟨s.data, s.ctl, s.left, s.ph⟩
    · rfl
    · obtain ⟨x1, x2⟩ := (goes_iff _).1 h
      have x1 : 128 ≤ s.ctl := x1
      have x2 : s.left ≠ 0 := x2
      have := I.c1
      omega
  rw [(idle_step _ b edge NG).1, (idle_step _ b edge NG).2] at A
  unfold outS at A
  have d0 := I.d0
  have c0 := I.c0
  have l0 := I.l0
  obtain ⟨sd, sc, sl, sp⟩ := s
  simp only at *
  have g1 : decide (128 ≤ sc) = false := decide_eq_false (by omega)
  have g5 : (decide (128 ≤ sd) == decide (127 < sd)) = true := by rw [show decide (127 < sd) = decide (128 ≤ sd) from by congr 1]; simp
  clear I J NG
  go_enter Try.func6, Try.ntmps6
  go_wp2_with fail
  refine (S.out _).mono ?_
  rintro e u1 ⟨rfl, k1⟩
  have P1 := hid (show Blk u1 w.heap.size 23 [.int .u8 sd, .int .u8 sc, .int .u8 sl, .int .u8 sp] from blk_kept k1 (blk_new w _ _))
  have K1 := hid (((Kept.refl w).alloc (.cells ([.int .u8 sd, .int .u8 sc, .int .u8 sl, .int .u8 sp] : List Value).toArray 23)).trans k1)
  have c1 := blk_cell P1.out
  clear k1
  have P2 := P1.out
  have K2 := K1
  go_wp2_with fail
  refine (A.out _).mono ?_
  rintro e u2 ⟨rfl, k2⟩
  have K3 := hid ((K2.out.trans k2).alloc (.cells ([.int .u8 sd, .int .u8 sc, .int .u8 sl, .int .u8 sp] : List Value).toArray 23))
  have c3 := blk_cell (blk_past (blk_kept k2 P2) (.cells ([.int .u8 sd, .int .u8 sc, .int .u8 sl, .int .u8 sp] : List Value).toArray 23))
  have c3b := blk_cell (blk_kept k2 P2)
  have c4 := blk_cell (blk_new u2 [.int .u8 sd, .int .u8 sc, .int .u8 sl, .int .u8 sp] 23)
  have z2 : w.heap.size ≠ u2.heap.size := by have := blk_lt (blk_kept k2 P2); omega
  clear k2 P2 P1 K1 K2
  go_wp2
  go_ret
  exact ⟨rfl, K3.out⟩
set_option maxRecDepth 100000 in
set_option maxHeartbeats 4000000 in
theorem idle12_b (s : Sr) (b edge : Bool) (w : World) (I : SrIn s) (q : ¬ s.ctl < 128) (z : s.left = 0) : Calls Try.prog 6 #[srV s, .bool b, .bool edge] w fun e w' => e = .returned (.bool true) ∧ Kept w w' := by
  have S := hid kshown12
  have J : SrIn ⟨s.data, s.ctl, s.left, s.ph⟩ := ⟨I.d0, I.d1, by show 0 ≤ s.ctl; have := I.c0; omega, by show s.ctl ≤ 255; have := I.c1; omega, I.l0, I.l1, I.p0, I.p1⟩
  have A := hid (fun u => pstep12 ⟨s.data, s.ctl, s.left, s.ph⟩ b edge u J)
  have NG : goesS ⟨s.data, s.ctl, s.left, s.ph⟩ = false := by
    cases h : goesS ⟨s.data, s.ctl, s.left, s.ph⟩
    · rfl
    · obtain ⟨x1, x2⟩ := (goes_iff _).1 h
      have x1 : 128 ≤ s.ctl := x1
      have x2 : s.left ≠ 0 := x2
      have := I.c1
      omega
  rw [(idle_step _ b edge NG).1, (idle_step _ b edge NG).2] at A
  unfold outS at A
  have d0 := I.d0
  have c0 := I.c0
  have l0 := I.l0
  obtain ⟨sd, sc, sl, sp⟩ := s
  simp only at *
  have g1 : decide (128 ≤ sc) = true := decide_eq_true (by omega)
  have g2 : decide (0 < sl) = false := decide_eq_false (by omega)
  clear z
  have g5 : (decide (128 ≤ sd) == decide (127 < sd)) = true := by rw [show decide (127 < sd) = decide (128 ≤ sd) from by congr 1]; simp
  clear I J NG
  go_enter Try.func6, Try.ntmps6
  go_wp2_with fail
  refine (S.out _).mono ?_
  rintro e u1 ⟨rfl, k1⟩
  have P1 := hid (show Blk u1 w.heap.size 23 [.int .u8 sd, .int .u8 sc, .int .u8 sl, .int .u8 sp] from blk_kept k1 (blk_new w _ _))
  have K1 := hid (((Kept.refl w).alloc (.cells ([.int .u8 sd, .int .u8 sc, .int .u8 sl, .int .u8 sp] : List Value).toArray 23)).trans k1)
  have c1 := blk_cell P1.out
  clear k1
  have P2 := P1.out
  have K2 := K1
  go_wp2_with fail
  refine (A.out _).mono ?_
  rintro e u2 ⟨rfl, k2⟩
  have K3 := hid ((K2.out.trans k2).alloc (.cells ([.int .u8 sd, .int .u8 sc, .int .u8 sl, .int .u8 sp] : List Value).toArray 23))
  have c3 := blk_cell (blk_past (blk_kept k2 P2) (.cells ([.int .u8 sd, .int .u8 sc, .int .u8 sl, .int .u8 sp] : List Value).toArray 23))
  have c3b := blk_cell (blk_kept k2 P2)
  have c4 := blk_cell (blk_new u2 [.int .u8 sd, .int .u8 sc, .int .u8 sl, .int .u8 sp] 23)
  have z2 : w.heap.size ≠ u2.heap.size := by have := blk_lt (blk_kept k2 P2); omega
  clear k2 P2 P1 K1 K2
  go_wp2
  go_ret
  exact ⟨rfl, K3.out⟩
set_option maxRecDepth 100000 in
set_option maxHeartbeats 4000000 in
theorem idle12_c (s : Sr) (b edge : Bool) (w : World) (I : SrIn s) (q : ¬ s.ctl < 128) (z : s.left ≠ 0) : Calls Try.prog 6 #[srV s, .bool b, .bool edge] w fun e w' => e = .returned (.bool true) ∧ Kept w w' := by
  have S := hid kshown12
  have J : SrIn ⟨s.data, (s.ctl % 128), s.left, s.ph⟩ := ⟨I.d0, I.d1, by show 0 ≤ (s.ctl % 128); have := I.c0; omega, by show (s.ctl % 128) ≤ 255; have := I.c1; omega, I.l0, I.l1, I.p0, I.p1⟩
  have A := hid (fun u => pstep12 ⟨s.data, (s.ctl % 128), s.left, s.ph⟩ b edge u J)
  have NG : goesS ⟨s.data, (s.ctl % 128), s.left, s.ph⟩ = false := by
    cases h : goesS ⟨s.data, (s.ctl % 128), s.left, s.ph⟩
    · rfl
    · obtain ⟨x1, x2⟩ := (goes_iff _).1 h
      have x1 : 128 ≤ (s.ctl % 128) := x1
      have x2 : s.left ≠ 0 := x2
      have := I.c1
      omega
  rw [(idle_step _ b edge NG).1, (idle_step _ b edge NG).2] at A
  unfold outS at A
  have d0 := I.d0
  have c0 := I.c0
  have l0 := I.l0
  obtain ⟨sd, sc, sl, sp⟩ := s
  simp only at *
  have g1 : decide (128 ≤ sc) = true := decide_eq_true (by omega)
  have g2 : decide (0 < sl) = true := decide_eq_true (by omega)
  have g3 : Int.tmod sc 128 = sc % 128 := Int.tmod_eq_emod_of_nonneg c0
  have g5 : (decide (128 ≤ sd) == decide (127 < sd)) = true := by rw [show decide (127 < sd) = decide (128 ≤ sd) from by congr 1]; simp
  clear I J NG
  go_enter Try.func6, Try.ntmps6
  go_wp2_with fail
  refine (S.out _).mono ?_
  rintro e u1 ⟨rfl, k1⟩
  have P1 := hid (show Blk u1 w.heap.size 23 [.int .u8 sd, .int .u8 sc, .int .u8 sl, .int .u8 sp] from blk_kept k1 (blk_new w _ _))
  have K1 := hid (((Kept.refl w).alloc (.cells ([.int .u8 sd, .int .u8 sc, .int .u8 sl, .int .u8 sp] : List Value).toArray 23)).trans k1)
  have c1 := blk_cell P1.out
  clear k1
  go_wp2_with ((with_reducible refine at_st 5 ?_); refine wl_store rfl rfl rfl rfl P1.out (by kernel_rfl) rfl (Nat.le_of_ble_eq_true rfl) (fun v1 p1 => ?_); have P2 : Blk v1 w.heap.size 23 [.int .u8 sd, .int .u8 (sc % 128), .int .u8 sl, .int .u8 sp] := p1.blk; have c2 := blk_cell P2; have K2 := hid (p1.kept _ K1.out (Nat.le_refl _)); clear p1 c1)
  refine (A.out _).mono ?_
  rintro e u2 ⟨rfl, k2⟩
  have K3 := hid ((K2.out.trans k2).alloc (.cells ([.int .u8 sd, .int .u8 (sc % 128), .int .u8 sl, .int .u8 sp] : List Value).toArray 23))
  have c3 := blk_cell (blk_past (blk_kept k2 P2) (.cells ([.int .u8 sd, .int .u8 (sc % 128), .int .u8 sl, .int .u8 sp] : List Value).toArray 23))
  have c3b := blk_cell (blk_kept k2 P2)
  have c4 := blk_cell (blk_new u2 [.int .u8 sd, .int .u8 (sc % 128), .int .u8 sl, .int .u8 sp] 23)
  have z2 : w.heap.size ≠ u2.heap.size := by have := blk_lt (blk_kept k2 P2); omega
  clear k2 P2 P1 K1 K2
  go_wp2
  go_ret
  exact ⟨rfl, K3.out⟩
theorem idle12 (s : Sr) (b edge : Bool) (w : World) (I : SrIn s) : Calls Try.prog 6 #[srV s, .bool b, .bool edge] w fun e w' => e = .returned (.bool true) ∧ Kept w w' := by
  by_cases q : s.ctl < 128
  · exact idle12_a s b edge w I q
  · by_cases z : s.left = 0
    · exact idle12_b s b edge w I q z
    · exact idle12_c s b edge w I q z
end Go.Proofs.Ytblagmninenapaa
