/- A cycle, as a whole. -/
import Derived.Test.YtoohpdnmdnjpaaaPdm19b
namespace Go.Proofs.Ytoohpdnmdnjpaaa
open Go.RowKit
set_option linter.unusedVariables false
set_option linter.unusedSimpArgs false

theorem blk_newN {u : World} {n : Nat} (h : u.heap.size = n) (cs : List Value) (t : TypeId) : Blk (u.alloc (.cells cs.toArray t)) n t cs := by
  rw [← h]; exact blk_new u cs t
theorem res_cell4 {P : Program} {fn : Func} {p q r s : Tmp} {ty t : TypeId} {cs : List Value} {d : TypeDesc} (h : fn.results = #[.cell p ty, .tmp q, .tmp r, .tmp s]) {tmps : Array Value} {w : World} {b : Nat} (hp : tmps.getD p undef = .pointer (some ⟨b, 0, none⟩)) (hB : Blk w b t cs)
    (hu : P.underlying ty = some d) (hd : d.isRow = true) (hi : (P.info? ty).map (·.size) = some cs.length) : (results fn tmps).run P w = .ok (.tuple #[.agg cs.toArray, tmps.getD q undef, tmps.getD r undef, tmps.getD s undef]) w := by
  have hp' : tmps[p]?.getD undef = .pointer (some ⟨b, 0, none⟩) := by simpa using hp
  simp [results, h, hp', asAddr, run_var_blk hB hu hd hi]
set_option maxRecDepth 100000 in
set_option maxHeartbeats 4000000 in
theorem pstep19 (s : Dm) (w : World) (I : DmIn s) : Calls Try.prog 15 #[dmV s] w fun e w' => e = .returned (.tuple #[dmV (stepD s), .int .u16 (fromD s), .int .u8 (toD s), .bool s.on]) ∧ Kept w w' := by
  have HG := hid (fun bc bd bf bt u => pgo19 s bc bd bf bt u I)
  have HC := hid (fun bd u => pcome19 (goD s) bd u (go_in I))
  have SD : stepD s = comeD (goD s) := rfl
  rw [SD]
  generalize comeD (goD s) = V at *
  generalize goD s = M at *
  generalize fromD s = A at *
  generalize toD s = B at *
  clear I SD
  obtain ⟨so, sp, sa, sw, sn⟩ := s
  simp only at *
  have zx1 : (w.alloc (.cells ([.bool so, .int .u8 sp, .int .u8 sa, .int .u8 sw, .int .u8 sn] : List Value).toArray 23)).heap.size = w.heap.size + 1 := by simp [World.size_alloc]
  have zx2 : ((w.alloc (.cells ([.bool so, .int .u8 sp, .int .u8 sa, .int .u8 sw, .int .u8 sn] : List Value).toArray 23)).alloc (.cells ([.bool false, .int .u8 0, .int .u8 0, .int .u8 0, .int .u8 0] : List Value).toArray 23)).heap.size = w.heap.size + 2 := by simp [World.size_alloc]
  have zx3 : (((w.alloc (.cells ([.bool so, .int .u8 sp, .int .u8 sa, .int .u8 sw, .int .u8 sn] : List Value).toArray 23)).alloc (.cells ([.bool false, .int .u8 0, .int .u8 0, .int .u8 0, .int .u8 0] : List Value).toArray 23)).alloc (.cells ([.int .u16 0] : List Value).toArray 28)).heap.size = w.heap.size + 3 := by simp [World.size_alloc]
  have zx4 : ((((w.alloc (.cells ([.bool so, .int .u8 sp, .int .u8 sa, .int .u8 sw, .int .u8 sn] : List Value).toArray 23)).alloc (.cells ([.bool false, .int .u8 0, .int .u8 0, .int .u8 0, .int .u8 0] : List Value).toArray 23)).alloc (.cells ([.int .u16 0] : List Value).toArray 28)).alloc (.cells ([.int .u8 0] : List Value).toArray 5)).heap.size = w.heap.size + 4 := by simp [World.size_alloc]
  have zx5 : (((((w.alloc (.cells ([.bool so, .int .u8 sp, .int .u8 sa, .int .u8 sw, .int .u8 sn] : List Value).toArray 23)).alloc (.cells ([.bool false, .int .u8 0, .int .u8 0, .int .u8 0, .int .u8 0] : List Value).toArray 23)).alloc (.cells ([.int .u16 0] : List Value).toArray 28)).alloc (.cells ([.int .u8 0] : List Value).toArray 5)).alloc (.cells ([.bool false] : List Value).toArray 4)).heap.size = w.heap.size + 5 := by simp [World.size_alloc]
  have X0 : Blk (((((w.alloc (.cells ([.bool so, .int .u8 sp, .int .u8 sa, .int .u8 sw, .int .u8 sn] : List Value).toArray 23)).alloc (.cells ([.bool false, .int .u8 0, .int .u8 0, .int .u8 0, .int .u8 0] : List Value).toArray 23)).alloc (.cells ([.int .u16 0] : List Value).toArray 28)).alloc (.cells ([.int .u8 0] : List Value).toArray 5)).alloc (.cells ([.bool false] : List Value).toArray 4)) w.heap.size 23 [.bool so, .int .u8 sp, .int .u8 sa, .int .u8 sw, .int .u8 sn] := blk_past (blk_past (blk_past (blk_past (blk_new w _ _) _) _) _) _
  have X1 : Blk (((((w.alloc (.cells ([.bool so, .int .u8 sp, .int .u8 sa, .int .u8 sw, .int .u8 sn] : List Value).toArray 23)).alloc (.cells ([.bool false, .int .u8 0, .int .u8 0, .int .u8 0, .int .u8 0] : List Value).toArray 23)).alloc (.cells ([.int .u16 0] : List Value).toArray 28)).alloc (.cells ([.int .u8 0] : List Value).toArray 5)).alloc (.cells ([.bool false] : List Value).toArray 4)) (w.heap.size + 1) 23 [.bool false, .int .u8 0, .int .u8 0, .int .u8 0, .int .u8 0] := blk_past (blk_past (blk_past (blk_newN zx1 _ _) _) _) _
  have X2 : Blk (((((w.alloc (.cells ([.bool so, .int .u8 sp, .int .u8 sa, .int .u8 sw, .int .u8 sn] : List Value).toArray 23)).alloc (.cells ([.bool false, .int .u8 0, .int .u8 0, .int .u8 0, .int .u8 0] : List Value).toArray 23)).alloc (.cells ([.int .u16 0] : List Value).toArray 28)).alloc (.cells ([.int .u8 0] : List Value).toArray 5)).alloc (.cells ([.bool false] : List Value).toArray 4)) (w.heap.size + 2) 28 [.int .u16 0] := blk_past (blk_past (blk_newN zx2 _ _) _) _
  have X3 : Blk (((((w.alloc (.cells ([.bool so, .int .u8 sp, .int .u8 sa, .int .u8 sw, .int .u8 sn] : List Value).toArray 23)).alloc (.cells ([.bool false, .int .u8 0, .int .u8 0, .int .u8 0, .int .u8 0] : List Value).toArray 23)).alloc (.cells ([.int .u16 0] : List Value).toArray 28)).alloc (.cells ([.int .u8 0] : List Value).toArray 5)).alloc (.cells ([.bool false] : List Value).toArray 4)) (w.heap.size + 3) 5 [.int .u8 0] := blk_past (blk_newN zx3 _ _) _
  have X4 : Blk (((((w.alloc (.cells ([.bool so, .int .u8 sp, .int .u8 sa, .int .u8 sw, .int .u8 sn] : List Value).toArray 23)).alloc (.cells ([.bool false, .int .u8 0, .int .u8 0, .int .u8 0, .int .u8 0] : List Value).toArray 23)).alloc (.cells ([.int .u16 0] : List Value).toArray 28)).alloc (.cells ([.int .u8 0] : List Value).toArray 5)).alloc (.cells ([.bool false] : List Value).toArray 4)) (w.heap.size + 4) 4 [.bool false] := blk_newN zx4 _ _
  have KX := hid ((((((Kept.refl w).alloc (.cells ([.bool so, .int .u8 sp, .int .u8 sa, .int .u8 sw, .int .u8 sn] : List Value).toArray 23)).alloc (.cells ([.bool false, .int .u8 0, .int .u8 0, .int .u8 0, .int .u8 0] : List Value).toArray 23)).alloc (.cells ([.int .u16 0] : List Value).toArray 28)).alloc (.cells ([.int .u8 0] : List Value).toArray 5)).alloc (.cells ([.bool false] : List Value).toArray 4))
  go_enter Try.func15, Try.ntmps15
  go_wp2_with ((with_reducible refine at_st 4 ?_); refine wl_store rfl rfl rfl rfl X4 (by kernel_rfl) rfl (Nat.le_of_ble_eq_true rfl) (fun v1 p1 => ?_); have C1 : Blk v1 (w.heap.size + 4) 4 [.bool so] := p1.blk; have Y0 := p1.other _ _ _ (by omega) X0; have Y1 := p1.other _ _ _ (by omega) X1; have Y2 := p1.other _ _ _ (by omega) X2; have Y3 := p1.other _ _ _ (by omega) X3; have K1 := hid (p1.kept _ KX.out (Nat.le_add_right _ _)); clear p1 X0 X1 X2 X3 X4 KX)
  refine (HG.out (w.heap.size + 4) w.heap.size (w.heap.size + 2) (w.heap.size + 3) _ C1 Y0 Y2 Y3 (by omega) (by omega) (by omega)).mono ?_
  rintro e u2 ⟨rfl, D2, F2, T2, k2⟩
  have C2 := blkX k2 C1 (by omega)
  have R2 := blkX k2 Y1 (by omega)
  have K2 := hid (k2.kept K1.out (by rintro k (rfl | rfl | rfl) <;> omega))
  clear k2 C1 Y0 Y1 Y2 Y3 K1 HG
  go_wp2_with fail
  refine (HC.out w.heap.size _ D2).mono ?_
  rintro e u3 ⟨rfl, D3, k3⟩
  have C3 := blkX k3 C2 (by omega)
  have R3 := blkX k3 R2 (by omega)
  have F3 := blkX k3 F2 (by omega)
  have T3 := blkX k3 T2 (by omega)
  have K3 := hid (k3.kept K2.out (by rintro k rfl; omega))
  clear k3 C2 R2 F2 T2 D2 K2 HC
  go_wp2_with fail
  obtain ⟨d0, d1, d2, d3, d4⟩ := five19 D3
  have d5 := blk_cell F3 0
  have d6 := blk_cell T3 0
  have d7 := blk_cell C3 0
  simp only [List.getElem?_cons_zero] at d5 d6 d7
  refine wp_region_held_drew (S := (fun w' => w'.cell? ⟨w.heap.size, 0, none⟩ = some (.bool V.on) ∧ w'.cell? ⟨w.heap.size, 1, none⟩ = some (.int .u8 V.page) ∧ w'.cell? ⟨w.heap.size, 2, none⟩ = some (.int .u8 V.pos) ∧ w'.cell? ⟨w.heap.size, 3, none⟩ = some (.int .u8 V.wait) ∧ w'.cell? ⟨w.heap.size, 4, none⟩ = some (.int .u8 V.next) ∧ w'.cell? ⟨w.heap.size + 2, 0, none⟩ = some (.int .u16 A) ∧ w'.cell? ⟨w.heap.size + 3, 0, none⟩ = some (.int .u8 B) ∧ w'.cell? ⟨w.heap.size + 4, 0, none⟩ = some (.bool so))) (by kernel_rfl) (by go_keep) (fun hHeld => ?_)
  have C4 := blk_drew C3
  have R4 := blk_drew R3
  have F4 := blk_drew F3
  have T4 := blk_drew T3
  have D4 := blk_drew D3
  have K4 := hid K3.out.drew
  clear C3 R3 F3 T3 D3 K3 d0 d1 d2 d3 d4 d5 d6 d7
  obtain ⟨d0, d1, d2, d3, d4⟩ := five19 D4
  have d5 := blk_cell F4 0
  have d6 := blk_cell T4 0
  have d7 := blk_cell C4 0
  simp only [List.getElem?_cons_zero] at d5 d6 d7
  refine wpAnyH_take (i := 0) (v := ?_) rfl (by kernel_rfl) (by kernel_rfl) (by kernel_rfl) (fun _ _ _ h => h) (Or.inl ⟨by rfl, ?_⟩) (by assumption) ?_
  rotate_left
  · intro w hSw
    (try dsimp only at hSw)
    obtain ⟨s0, s1, s2, s3, s4, s5, s6, s7⟩ := hSw
    go_simp
    try with_reducible rfl
  simp only [Act.put, List.getElem_toArray, List.getElem_cons_succ, List.getElem_cons_zero, List.setIfInBounds_toArray, List.set_cons_zero, List.set_cons_succ]
  refine wpAnyH_take (i := 1) (v := ?_) rfl (by kernel_rfl) (by kernel_rfl) (by kernel_rfl) (fun _ _ _ h => h) (Or.inl ⟨by rfl, ?_⟩) (by assumption) ?_
  rotate_left
  · intro w hSw
    (try dsimp only at hSw)
    obtain ⟨s0, s1, s2, s3, s4, s5, s6, s7⟩ := hSw
    go_simp
    try with_reducible rfl
  simp only [Act.put, List.getElem_toArray, List.getElem_cons_succ, List.getElem_cons_zero, List.setIfInBounds_toArray, List.set_cons_zero, List.set_cons_succ]
  refine wpAnyH_take (i := 2) (v := ?_) rfl (by kernel_rfl) (by kernel_rfl) (by kernel_rfl) (fun _ _ _ h => h) (Or.inl ⟨by rfl, ?_⟩) (by assumption) ?_
  rotate_left
  · intro w hSw
    (try dsimp only at hSw)
    obtain ⟨s0, s1, s2, s3, s4, s5, s6, s7⟩ := hSw
    go_simp
    try with_reducible rfl
  simp only [Act.put, List.getElem_toArray, List.getElem_cons_succ, List.getElem_cons_zero, List.setIfInBounds_toArray, List.set_cons_zero, List.set_cons_succ]
  refine wpAnyH_take (i := 3) (v := ?_) rfl (by kernel_rfl) (by kernel_rfl) (by kernel_rfl) (fun _ _ _ h => h) (Or.inl ⟨by rfl, ?_⟩) (by assumption) ?_
  rotate_left
  · intro w hSw
    (try dsimp only at hSw)
    obtain ⟨s0, s1, s2, s3, s4, s5, s6, s7⟩ := hSw
    go_simp
    try with_reducible rfl
  simp only [Act.put, List.getElem_toArray, List.getElem_cons_succ, List.getElem_cons_zero, List.setIfInBounds_toArray, List.set_cons_zero, List.set_cons_succ]
  refine wpAnyH_ready (rs := [4]) (by kernel_rfl) (by simp) ?_
  refine AllReadyH.cons rfl (fun K hK => ?_) AllReadyH.nil
  refine wp_st19 R4 rfl rfl rfl (by kernel_rfl) rfl (Nat.le_of_ble_eq_true rfl) (fun y5 p5 => ?_)
  have R5 : Blk y5 (w.heap.size + 1) 23 [.bool V.on, .int .u8 V.page, .int .u8 V.pos, .int .u8 V.wait, .int .u8 V.next] := p5.blk
  have D5 := p5.other _ _ _ (by omega) D4
  have F5 := p5.other _ _ _ (by omega) F4
  have T5 := p5.other _ _ _ (by omega) T4
  have C5 := p5.other _ _ _ (by omega) C4
  have K5 := hid (p5.kept _ K4.out (Nat.le_succ _))
  clear p5 C4 R4 F4 T4 D4 K4 d0 d1 d2 d3 d4 d5 d6 d7
  obtain ⟨d0, d1, d2, d3, d4⟩ := five19 D5
  have d5 := blk_cell F5 0
  have d6 := blk_cell T5 0
  have d7 := blk_cell C5 0
  simp only [List.getElem?_cons_zero] at d5 d6 d7
  refine hK.out _ _ (by go_keep) (fun hHeld => ?_)
  clear hK K
  try simp only [Act.put, List.getElem_toArray, List.getElem_cons_succ, List.getElem_cons_zero, List.setIfInBounds_toArray, List.set_cons_zero, List.set_cons_succ]
  refine wpAnyH_take (i := 5) (v := ?_) rfl (by kernel_rfl) (by kernel_rfl) (by kernel_rfl) (fun _ _ _ h => h) (Or.inl ⟨by rfl, ?_⟩) (by assumption) ?_
  rotate_left
  · intro w hSw
    (try dsimp only at hSw)
    obtain ⟨s0, s1, s2, s3, s4, s5, s6, s7⟩ := hSw
    go_simp
    try with_reducible rfl
  simp only [Act.put, List.getElem_toArray, List.getElem_cons_succ, List.getElem_cons_zero, List.setIfInBounds_toArray, List.set_cons_zero, List.set_cons_succ]
  refine wpAnyH_take (i := 6) (v := ?_) rfl (by kernel_rfl) (by kernel_rfl) (by kernel_rfl) (fun _ _ _ h => h) (Or.inl ⟨by rfl, ?_⟩) (by assumption) ?_
  rotate_left
  · intro w hSw
    (try dsimp only at hSw)
    obtain ⟨s0, s1, s2, s3, s4, s5, s6, s7⟩ := hSw
    go_simp
    try with_reducible rfl
  simp only [Act.put, List.getElem_toArray, List.getElem_cons_succ, List.getElem_cons_zero, List.setIfInBounds_toArray, List.set_cons_zero, List.set_cons_succ]
  refine wpAnyH_take (i := 7) (v := ?_) rfl (by kernel_rfl) (by kernel_rfl) (by kernel_rfl) (fun _ _ _ h => h) (Or.inl ⟨by rfl, ?_⟩) (by assumption) ?_
  rotate_left
  · intro w hSw
    (try dsimp only at hSw)
    obtain ⟨s0, s1, s2, s3, s4, s5, s6, s7⟩ := hSw
    go_simp
    try with_reducible rfl
  simp only [Act.put, List.getElem_toArray, List.getElem_cons_succ, List.getElem_cons_zero, List.setIfInBounds_toArray, List.set_cons_zero, List.set_cons_succ]
  refine wpAnyH_done (by kernel_rfl) ?_ _
  clear hHeld
  go_wp2_with fail
  exact bodyPost_ret (res_cell4 Try.results15 rfl R5 Try.underlying23 rfl (by kernel_rfl)) rfl ⟨rfl, K5.out⟩
end Go.Proofs.Ytoohpdnmdnjpaaa
