/- Layer 19: DmaWrites, Sources, Steps, as walks. -/
import Derived.Test.YtoohpdnmdnjpaaaSw19
import Derived.Deep.RegionHeld3
namespace Go.Proofs.Ytoohpdnmdnjpaaa
open Go.RowKit
set_option linter.unusedVariables false
set_option linter.unusedSimpArgs false

set_option maxRecDepth 100000 in
set_option maxHeartbeats 4000000 in
theorem sources19 (p a : Int) (w : World) (p0 : 0 ≤ p) (p1 : p ≤ 255) (a0 : 0 ≤ a) (a1 : a ≤ 255) : Calls Try.prog 4 #[.int .u8 p, .int .u8 a] w fun e w' => e = .returned (.bool true) ∧ Kept w w' := by
  have S := hid kshown19
  have A := hid (fun u => psrc19 p a u p0 p1 a0 a1)
  have B := hid (fun u => rsrc19 p a u p0 p1 a0 a1)
  generalize srcD p a = V at *
  go_enter Try.func4, Try.ntmps4
  go_wp2_with fail
  refine (S.out _).mono ?_
  rintro e u1 ⟨rfl, k1⟩
  have K1 := hid k1
  clear k1
  go_wp2_with fail
  refine (A.out _).mono ?_
  rintro e ux ⟨rfl, rfl⟩
  go_wp2_with fail
  refine (B.out _).mono ?_
  rintro e ux ⟨rfl, rfl⟩
  go_wp2
  go_ret
  exact ⟨rfl, K1.out⟩
set_option maxRecDepth 100000 in
set_option maxHeartbeats 4000000 in
theorem steps19 (s : Dm) (w : World) (I : DmIn s) : Calls Try.prog 5 #[dmV s] w fun e w' => e = .returned (.bool true) ∧ Kept w w' := by
  have S := hid kshown19
  have A := hid (fun u => pstep19 s u I)
  have B := hid (fun u => rstep19 s u I)
  generalize stepD s = V at *
  generalize fromD s = X at *
  generalize toD s = Y at *
  clear I
  go_enter Try.func5, Try.ntmps5
  go_wp2_with fail
  refine (S.out _).mono ?_
  rintro e u1 ⟨rfl, k1⟩
  have P1 := hid (show Blk u1 w.heap.size 23 [.bool s.on, .int .u8 s.page, .int .u8 s.pos, .int .u8 s.wait, .int .u8 s.next] from blk_kept k1 (blk_new w _ _))
  have K1 := hid (((Kept.refl w).alloc (.cells ([.bool s.on, .int .u8 s.page, .int .u8 s.pos, .int .u8 s.wait, .int .u8 s.next] : List Value).toArray 23)).trans k1)
  have c1 := blk_cell P1.out
  clear k1
  go_wp2_with fail
  refine (A.out _).mono ?_
  rintro e u2 ⟨rfl, k2⟩
  have K2 := hid ((K1.out.trans k2).alloc (.cells ([.bool V.on, .int .u8 V.page, .int .u8 V.pos, .int .u8 V.wait, .int .u8 V.next] : List Value).toArray 23))
  have P2 := hid (blk_past (blk_kept k2 P1.out) (.cells ([.bool V.on, .int .u8 V.page, .int .u8 V.pos, .int .u8 V.wait, .int .u8 V.next] : List Value).toArray 23))
  have V2 := hid (blk_new u2 [.bool V.on, .int .u8 V.page, .int .u8 V.pos, .int .u8 V.wait, .int .u8 V.next] 23)
  have c2 := blk_cell P2.out
  have c2b := blk_cell (blk_kept k2 P1.out)
  have z2 : w.heap.size ≠ u2.heap.size := by have := blk_lt (blk_kept k2 P1.out); omega
  clear k2 P1 K1 c1
  go_wp2_with fail
  refine (B.out _).mono ?_
  rintro e u3 ⟨rfl, k3⟩
  have K3 := hid ((K2.out.trans k3).alloc (.cells ([.bool V.on, .int .u8 V.page, .int .u8 V.pos, .int .u8 V.wait, .int .u8 V.next] : List Value).toArray 23))
  have c3 := blk_cell (blk_kept k3 V2.out)
  have z3 : u2.heap.size ≠ u3.heap.size := by have := blk_lt (blk_kept k3 V2.out); omega
  have c4 := blk_cell (blk_past (blk_kept k3 V2.out) (.cells ([.bool V.on, .int .u8 V.page, .int .u8 V.pos, .int .u8 V.wait, .int .u8 V.next] : List Value).toArray 23))
  have c5 := blk_cell (blk_new u3 [.bool V.on, .int .u8 V.page, .int .u8 V.pos, .int .u8 V.wait, .int .u8 V.next] 23)
  clear k3 P2 K2 c2 c2b
  go_wp2
  go_ret
  exact ⟨rfl, K3.out⟩
set_option maxRecDepth 100000 in
set_option maxHeartbeats 4000000 in
theorem writes19 (s : Dm) (v : Int) (w : World) : Calls Try.prog 3 #[dmV s, .int .u8 v] w fun e w' => e = .returned (.bool true) ∧ Kept w w' := by
  have S := hid kshown19
  have A := hid (fun u => pwrite19 s v u)
  have B := hid (fun u => rwrite19 s v u)
  have D := hid (fun u => pread19 s u)
  have E := hid (fun u => rread19 s u)
  generalize askD s v = V at *
  go_enter Try.func3, Try.ntmps3
  go_wp2_with fail
  refine (S.out _).mono ?_
  rintro e u1 ⟨rfl, k1⟩
  have P1 := hid (show Blk u1 w.heap.size 23 [.bool s.on, .int .u8 s.page, .int .u8 s.pos, .int .u8 s.wait, .int .u8 s.next] from blk_kept k1 (blk_new w _ _))
  have K1 := hid (((Kept.refl w).alloc (.cells ([.bool s.on, .int .u8 s.page, .int .u8 s.pos, .int .u8 s.wait, .int .u8 s.next] : List Value).toArray 23)).trans k1)
  have c1 := blk_cell P1.out
  clear k1
  obtain ⟨d0, d1, d2, d3, d4⟩ := five19 P1.out
  go_wp2_with fail
  refine wp_region_held_drew (S := (fun w' => w'.cell? ⟨w.heap.size, 0, none⟩ = some (.bool s.on) ∧ w'.cell? ⟨w.heap.size, 1, none⟩ = some (.int .u8 s.page) ∧ w'.cell? ⟨w.heap.size, 2, none⟩ = some (.int .u8 s.pos) ∧ w'.cell? ⟨w.heap.size, 3, none⟩ = some (.int .u8 s.wait) ∧ w'.cell? ⟨w.heap.size, 4, none⟩ = some (.int .u8 s.next))) (by kernel_rfl) (by go_keep) (fun hHeld => ?_)
  have K2 := hid K1.out.drew
  have P2 := hid (blk_drew P1.out)
  clear K1 P1 c1 d0 d1 d2 d3 d4
  obtain ⟨d0, d1, d2, d3, d4⟩ := five19 P2.out
  refine wpAnyH_take (i := 0) (v := ?_) rfl (by kernel_rfl) (by kernel_rfl) (by kernel_rfl) (fun _ _ _ h => h) (Or.inl ⟨by rfl, ?_⟩) (by assumption) ?_
  rotate_left
  · intro w hSw
    (try dsimp only at hSw)
    obtain ⟨s0, s1, s2, s3, s4⟩ := hSw
    go_simp
    try with_reducible rfl
  simp only [Act.put, List.getElem_toArray, List.getElem_cons_succ, List.getElem_cons_zero, List.setIfInBounds_toArray, List.set_cons_zero, List.set_cons_succ]
  refine wpAnyH_take (i := 1) (v := ?_) rfl (by kernel_rfl) (by kernel_rfl) (by kernel_rfl) (fun _ _ _ h => h) (Or.inl ⟨by rfl, ?_⟩) (by assumption) ?_
  rotate_left
  · intro w hSw
    (try dsimp only at hSw)
    obtain ⟨s0, s1, s2, s3, s4⟩ := hSw
    go_simp
    try with_reducible rfl
  simp only [Act.put, List.getElem_toArray, List.getElem_cons_succ, List.getElem_cons_zero, List.setIfInBounds_toArray, List.set_cons_zero, List.set_cons_succ]
  refine wpAnyH_take (i := 2) (v := ?_) rfl (by kernel_rfl) (by kernel_rfl) (by kernel_rfl) (fun _ _ _ h => h) (Or.inl ⟨by rfl, ?_⟩) (by assumption) ?_
  rotate_left
  · intro w hSw
    (try dsimp only at hSw)
    obtain ⟨s0, s1, s2, s3, s4⟩ := hSw
    go_simp
    try with_reducible rfl
  simp only [Act.put, List.getElem_toArray, List.getElem_cons_succ, List.getElem_cons_zero, List.setIfInBounds_toArray, List.set_cons_zero, List.set_cons_succ]
  refine wpAnyH_take (i := 3) (v := ?_) rfl (by kernel_rfl) (by kernel_rfl) (by kernel_rfl) (fun _ _ _ h => h) (Or.inl ⟨by rfl, ?_⟩) (by assumption) ?_
  rotate_left
  · intro w hSw
    (try dsimp only at hSw)
    obtain ⟨s0, s1, s2, s3, s4⟩ := hSw
    go_simp
    try with_reducible rfl
  simp only [Act.put, List.getElem_toArray, List.getElem_cons_succ, List.getElem_cons_zero, List.setIfInBounds_toArray, List.set_cons_zero, List.set_cons_succ]
  refine wpAnyH_take (i := 5) (v := ?_) rfl (by kernel_rfl) (by kernel_rfl) (by kernel_rfl) (fun _ _ _ h => h) (Or.inl ⟨by rfl, ?_⟩) (by assumption) ?_
  rotate_left
  · intro w hSw
    (try dsimp only at hSw)
    obtain ⟨s0, s1, s2, s3, s4⟩ := hSw
    go_simp
    try with_reducible rfl
  simp only [Act.put, List.getElem_toArray, List.getElem_cons_succ, List.getElem_cons_zero, List.setIfInBounds_toArray, List.set_cons_zero, List.set_cons_succ]
  refine wpAnyH_take (i := 6) (v := ?_) rfl (by kernel_rfl) (by kernel_rfl) (by kernel_rfl) (fun _ _ _ h => h) (Or.inl ⟨by rfl, ?_⟩) (by assumption) ?_
  rotate_left
  · intro w hSw
    (try dsimp only at hSw)
    obtain ⟨s0, s1, s2, s3, s4⟩ := hSw
    go_simp
    try with_reducible rfl
  simp only [Act.put, List.getElem_toArray, List.getElem_cons_succ, List.getElem_cons_zero, List.setIfInBounds_toArray, List.set_cons_zero, List.set_cons_succ]
  refine wpAnyH_ready (rs := [4]) (by kernel_rfl) (by simp) ?_
  refine AllReadyH.cons rfl (fun K hK => ?_) AllReadyH.nil
  go_simp
  refine (A.out _).mono ?_
  rintro e y3 ⟨rfl, k1⟩
  have K3 := hid (K2.out.trans k1)
  have P3 := hid (blk_kept k1 P2.out)
  clear k1 K2 P2 d0 d1 d2 d3 d4
  obtain ⟨d0, d1, d2, d3, d4⟩ := five19 P3.out
  refine hK.out _ _ (by go_keep) (fun hHeld => ?_)
  clear hK K
  try simp only [Act.put, List.getElem_toArray, List.getElem_cons_succ, List.getElem_cons_zero, List.setIfInBounds_toArray, List.set_cons_zero, List.set_cons_succ]
  refine wpAnyH_ready (rs := [7]) (by kernel_rfl) (by simp) ?_
  refine AllReadyH.cons rfl (fun K hK => ?_) AllReadyH.nil
  go_simp
  refine (B.out _).mono ?_
  rintro e y4 ⟨rfl, k1⟩
  have K4 := hid (K3.out.trans k1)
  have P4 := hid (blk_kept k1 P3.out)
  clear k1 K3 P3 d0 d1 d2 d3 d4
  obtain ⟨d0, d1, d2, d3, d4⟩ := five19 P4.out
  refine hK.out _ _ (by go_keep) (fun hHeld => ?_)
  clear hK K
  try simp only [Act.put, List.getElem_toArray, List.getElem_cons_succ, List.getElem_cons_zero, List.setIfInBounds_toArray, List.set_cons_zero, List.set_cons_succ]
  refine wpAnyH_take (i := 8) (v := ?_) rfl (by kernel_rfl) (by kernel_rfl) (by kernel_rfl) (fun _ _ _ h => h) (Or.inl ⟨by rfl, ?_⟩) (by assumption) ?_
  rotate_left
  · intro w hSw
    (try dsimp only at hSw)
    obtain ⟨s0, s1, s2, s3, s4⟩ := hSw
    go_simp
    try with_reducible rfl
  simp only [Act.put, List.getElem_toArray, List.getElem_cons_succ, List.getElem_cons_zero, List.setIfInBounds_toArray, List.set_cons_zero, List.set_cons_succ]
  refine wpAnyH_take (i := 9) (v := ?_) rfl (by kernel_rfl) (by kernel_rfl) (by kernel_rfl) (fun _ _ _ h => h) (Or.inl ⟨by rfl, ?_⟩) (by assumption) ?_
  rotate_left
  · intro w hSw
    (try dsimp only at hSw)
    obtain ⟨s0, s1, s2, s3, s4⟩ := hSw
    go_simp
    try with_reducible rfl
  simp only [Act.put, List.getElem_toArray, List.getElem_cons_succ, List.getElem_cons_zero, List.setIfInBounds_toArray, List.set_cons_zero, List.set_cons_succ]
  refine wpAnyH_take (i := 10) (v := ?_) rfl (by kernel_rfl) (by kernel_rfl) (by kernel_rfl) (fun _ _ _ h => h) (Or.inl ⟨by rfl, ?_⟩) (by assumption) ?_
  rotate_left
  · intro w hSw
    (try dsimp only at hSw)
    obtain ⟨s0, s1, s2, s3, s4⟩ := hSw
    go_simp
    try with_reducible rfl
  simp only [Act.put, List.getElem_toArray, List.getElem_cons_succ, List.getElem_cons_zero, List.setIfInBounds_toArray, List.set_cons_zero, List.set_cons_succ]
  refine wpAnyH_take (i := 11) (v := ?_) rfl (by kernel_rfl) (by kernel_rfl) (by kernel_rfl) (fun _ _ _ h => h) (Or.inl ⟨by rfl, ?_⟩) (by assumption) ?_
  rotate_left
  · intro w hSw
    (try dsimp only at hSw)
    obtain ⟨s0, s1, s2, s3, s4⟩ := hSw
    go_simp
    try with_reducible rfl
  simp only [Act.put, List.getElem_toArray, List.getElem_cons_succ, List.getElem_cons_zero, List.setIfInBounds_toArray, List.set_cons_zero, List.set_cons_succ]
  refine wpAnyH_take (i := 13) (v := ?_) rfl (by kernel_rfl) (by kernel_rfl) (by kernel_rfl) (fun _ _ _ h => h) (Or.inl ⟨by rfl, ?_⟩) (by assumption) ?_
  rotate_left
  · intro w hSw
    (try dsimp only at hSw)
    obtain ⟨s0, s1, s2, s3, s4⟩ := hSw
    go_simp
    try with_reducible rfl
  simp only [Act.put, List.getElem_toArray, List.getElem_cons_succ, List.getElem_cons_zero, List.setIfInBounds_toArray, List.set_cons_zero, List.set_cons_succ]
  refine wpAnyH_ready (rs := [12]) (by kernel_rfl) (by simp) ?_
  refine AllReadyH.cons rfl (fun K hK => ?_) AllReadyH.nil
  go_simp
  refine (D.out _).mono ?_
  rintro e y5 ⟨rfl, k1⟩
  have K5 := hid (K4.out.trans k1)
  have P5 := hid (blk_kept k1 P4.out)
  clear k1 K4 P4 d0 d1 d2 d3 d4
  obtain ⟨d0, d1, d2, d3, d4⟩ := five19 P5.out
  refine hK.out _ _ (by go_keep) (fun hHeld => ?_)
  clear hK K
  try simp only [Act.put, List.getElem_toArray, List.getElem_cons_succ, List.getElem_cons_zero, List.setIfInBounds_toArray, List.set_cons_zero, List.set_cons_succ]
  refine wpAnyH_ready (rs := [14]) (by kernel_rfl) (by simp) ?_
  refine AllReadyH.cons rfl (fun K hK => ?_) AllReadyH.nil
  go_simp
  refine (E.out _).mono ?_
  rintro e y6 ⟨rfl, k1⟩
  have K6 := hid (K5.out.trans k1)
  have P6 := hid (blk_kept k1 P5.out)
  clear k1 K5 P5 d0 d1 d2 d3 d4
  obtain ⟨d0, d1, d2, d3, d4⟩ := five19 P6.out
  refine hK.out _ _ (by go_keep) (fun hHeld => ?_)
  clear hK K
  try simp only [Act.put, List.getElem_toArray, List.getElem_cons_succ, List.getElem_cons_zero, List.setIfInBounds_toArray, List.set_cons_zero, List.set_cons_succ]
  refine wpAnyH_take (i := 15) (v := ?_) rfl (by kernel_rfl) (by kernel_rfl) (by kernel_rfl) (fun _ _ _ h => h) (Or.inl ⟨by rfl, ?_⟩) (by assumption) ?_
  rotate_left
  · intro w hSw
    (try dsimp only at hSw)
    obtain ⟨s0, s1, s2, s3, s4⟩ := hSw
    go_simp
    try with_reducible rfl
  simp only [Act.put, List.getElem_toArray, List.getElem_cons_succ, List.getElem_cons_zero, List.setIfInBounds_toArray, List.set_cons_zero, List.set_cons_succ]
  refine wpAnyH_take (i := 16) (v := ?_) rfl (by kernel_rfl) (by kernel_rfl) (by kernel_rfl) (fun _ _ _ h => h) (Or.inl ⟨by rfl, ?_⟩) (by assumption) ?_
  rotate_left
  · intro w hSw
    (try dsimp only at hSw)
    obtain ⟨s0, s1, s2, s3, s4⟩ := hSw
    go_simp
    try with_reducible rfl
  simp only [Act.put, List.getElem_toArray, List.getElem_cons_succ, List.getElem_cons_zero, List.setIfInBounds_toArray, List.set_cons_zero, List.set_cons_succ]
  refine wpAnyH_take (i := 17) (v := ?_) rfl (by kernel_rfl) (by kernel_rfl) (by kernel_rfl) (fun _ _ _ h => h) (Or.inl ⟨by rfl, ?_⟩) (by assumption) ?_
  rotate_left
  · intro w hSw
    (try dsimp only at hSw)
    obtain ⟨s0, s1, s2, s3, s4⟩ := hSw
    go_simp
    try with_reducible rfl
  simp only [Act.put, List.getElem_toArray, List.getElem_cons_succ, List.getElem_cons_zero, List.setIfInBounds_toArray, List.set_cons_zero, List.set_cons_succ]
  refine wpAnyH_done (by kernel_rfl) ?_ _
  clear hHeld
  go_wp2
  go_ret
  exact ⟨rfl, K6.out⟩
end Go.Proofs.Ytoohpdnmdnjpaaa
