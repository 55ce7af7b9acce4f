/- The program's Window, row, color, palette. The document's bits, window, cells, ground. -/
import Derived.Test.YtecgpdjgbdobbaaG19
import Derived.Test.YtecgpdjgbdobbaaG14
import Derived.Test.YtecgpdjgbdobbaaG17
import Derived.Deep.RegionHeld3
namespace Go.Proofs.Ytecgpdjgbdobbaa
open Go.RowKit
set_option linter.unusedVariables false
set_option linter.unusedSimpArgs false

set_option maxRecDepth 100000 in
set_option maxHeartbeats 4000000 in
theorem pwin18 (v : Vd) (y : Int) (w : World) (hv : VdIn w v) (h0 : 0 ≤ y) (h1 : y ≤ 255) : Calls Try.prog 10 #[vdV v, .int .u8 y] w fun e w' => e = .returned (.bool (winP v y)) ∧ Kept w w' := by
  have c0 := hv.c0
  have c1 := hv.c1
  have y0 := hv.y0
  have y1 := hv.y1
  have x0 := hv.x0
  have x1 := hv.x1
  have u0 := hv.u0
  have u1 := hv.u1
  have t0 := hv.t0
  have t1 := hv.t1
  have b0 := hv.b0
  have b1 := hv.b1
  have p0 := hv.p0
  have p1 := hv.p1
  have q0 := hv.q0
  have q1 := hv.q1
  have B0 := hid (fun u => bit_any v.ctl 0 u c0 c1)
  have B5 := hid (fun u => bit_any v.ctl 5 u c0 c1)
  clear hv
  unfold winP
  obtain ⟨ctl, scy, scx, wy, wx, bgp, o0, o1, va, vc, vz, oa, oc, oz⟩ := v
  simp only [vdV] at *
  obtain ⟨vn, hvn⟩ : ∃ n, vz.length = n := ⟨_, rfl⟩
  obtain ⟨on, hon⟩ : ∃ n, oz.length = n := ⟨_, rfl⟩
  rw [hvn, hon]
  clear hvn hon
  cases q0 : bitOf ctl 0
  · rw [q0] at B0
    clear q0 B5
    simp only [Bool.false_and]
    go_enter Try.func10, Try.ntmps10
    go_wp2_with fail
    refine (B0.out _).mono ?_
    rintro e u ⟨rfl, rfl⟩
    go_wp2
    go_ret
    exact ⟨rfl, (Kept.refl w).alloc _⟩
  · cases q5 : bitOf ctl 5
    · rw [q0] at B0
      rw [q5] at B5
      clear q0 q5
      simp only [Bool.and_false, Bool.false_and]
      go_enter Try.func10, Try.ntmps10
      go_wp2_with fail
      refine (B0.out _).mono ?_
      rintro e u ⟨rfl, rfl⟩
      go_wp2_with fail
      refine (B5.out _).mono ?_
      rintro e u ⟨rfl, rfl⟩
      go_wp2
      go_ret
      exact ⟨rfl, (Kept.refl w).alloc _⟩
    · rw [q0] at B0
      rw [q5] at B5
      clear q0 q5
      simp only [Bool.true_and]
      by_cases gy : wy ≤ y
      · by_cases gx : wx ≤ 166
        · go_enter Try.func10, Try.ntmps10
          go_wp2_with fail
          refine (B0.out _).mono ?_
          rintro e u ⟨rfl, rfl⟩
          go_wp2_with fail
          refine (B5.out _).mono ?_
          rintro e u ⟨rfl, rfl⟩
          go_wp2
          go_ret
          exact ⟨by simp [gy, gx], (Kept.refl w).alloc _⟩
        · go_enter Try.func10, Try.ntmps10
          go_wp2_with fail
          refine (B0.out _).mono ?_
          rintro e u ⟨rfl, rfl⟩
          go_wp2_with fail
          refine (B5.out _).mono ?_
          rintro e u ⟨rfl, rfl⟩
          go_wp2
          go_ret
          exact ⟨by simp [gy, gx], (Kept.refl w).alloc _⟩
      · go_enter Try.func10, Try.ntmps10
        go_wp2_with fail
        refine (B0.out _).mono ?_
        rintro e u ⟨rfl, rfl⟩
        go_wp2_with fail
        refine (B5.out _).mono ?_
        rintro e u ⟨rfl, rfl⟩
        go_wp2
        go_ret
        exact ⟨by simp; omega, (Kept.refl w).alloc _⟩
set_option maxRecDepth 100000 in
set_option maxHeartbeats 4000000 in
theorem prow18 (v : Vd) (t n : Int) (s : Bool) (w : World) (hv : VdIn w v) (t0 : 0 ≤ t) (t1 : t ≤ 255) : Calls Try.prog 50 #[vdV v, .int .u8 t, .bool s, .int .i64 n] w fun e w' => e = .returned (.tuple #[.int .u8 (atP v.vz (placeP t s n)), .int .u8 (atP v.vz (placeP t s n + 1))]) ∧ Kept w w' := by
  have PL := hid (fun u => pplace17 t n s u t0 t1)
  have pb := place_bd t0 t1 s n
  have A1 := hid (fun u h => pat17 v.va v.vc v.vz (placeP t s n) u h)
  have A2 := hid (fun u h => pat17 v.va v.vc v.vz (placeP t s n + 1) u h)
  have R0 := hid hv.vs.row
  clear hv
  generalize placeP t s n = p at *
  generalize atP v.vz p = lo at *
  generalize atP v.vz (p + 1) = hi at *
  have e1 : IntKind.i64.wrap (p + 1) = p + 1 := by rw [IntKind.wrap_i64]; omega
  obtain ⟨ctl, scy, scx, wy, wx, bgp, o0, o1, va, vc, vz, oa, oc, oz⟩ := v
  simp only [vdV] at *
  obtain ⟨vn, hvn⟩ : ∃ n, vz.length = n := ⟨_, rfl⟩
  obtain ⟨on, hon⟩ : ∃ n, oz.length = n := ⟨_, rfl⟩
  rw [hvn] at A1 A2
  rw [hvn, hon]
  clear hvn hon
  have K0 := hid ((Kept.refl w).alloc (.cells #[.int .u8 ctl, .int .u8 scy, .int .u8 scx, .int .u8 wy, .int .u8 wx, .int .u8 bgp, .int .u8 o0, .int .u8 o1, .slice va vn vc, .slice oa on oc] 24))
  have BB : Hid (Blk (w.alloc (.cells #[.int .u8 ctl, .int .u8 scy, .int .u8 scx, .int .u8 wy, .int .u8 wx, .int .u8 bgp, .int .u8 o0, .int .u8 o1, .slice va vn vc, .slice oa on oc] 24)) w.heap.size 24 [.int .u8 ctl, .int .u8 scy, .int .u8 scx, .int .u8 wy, .int .u8 wx, .int .u8 bgp, .int .u8 o0, .int .u8 o1, .slice va vn vc, .slice oa on oc]) := blk_new w _ _
  go_enter Try.func50, Try.ntmps50
  go_wp2_with fail
  refine (PL.out _).mono ?_
  rintro e u0 ⟨rfl, rfl⟩
  have d0 : (w.alloc (.cells #[.int .u8 ctl, .int .u8 scy, .int .u8 scx, .int .u8 wy, .int .u8 wx, .int .u8 bgp, .int .u8 o0, .int .u8 o1, .slice va vn vc, .slice oa on oc] 24)).cell? ⟨w.heap.size, 8, none⟩ = some (.slice va vn vc) := blk_cell BB.out 8
  go_wp2_with fail
  refine wp_region_held_drew (S := (fun w' => w'.cell? ⟨w.heap.size, 8, none⟩ = some (.slice va vn vc))) (by kernel_rfl) (by go_keep) (fun hHeld => ?_)
  refine wpAnyH_take (i := 0) (v := ?_) rfl (by kernel_rfl) (by kernel_rfl) (by kernel_rfl) (fun _ _ _ h => h) (Or.inl ⟨by rfl, ?_⟩) (by assumption) ?_
  rotate_left
  · intro w hSw
    (try dsimp only at hSw)
    go_simp
    try with_reducible rfl
  simp only [Act.put, List.getElem_toArray, List.getElem_cons_succ, List.getElem_cons_zero, List.setIfInBounds_toArray, List.set_cons_zero, List.set_cons_succ]
  refine wpAnyH_take (i := 1) (v := ?_) rfl (by kernel_rfl) (by kernel_rfl) (by kernel_rfl) (fun _ _ _ h => h) (Or.inl ⟨by rfl, ?_⟩) (by assumption) ?_
  rotate_left
  · intro w hSw
    (try dsimp only at hSw)
    go_simp
    try with_reducible rfl
  simp only [Act.put, List.getElem_toArray, List.getElem_cons_succ, List.getElem_cons_zero, List.setIfInBounds_toArray, List.set_cons_zero, List.set_cons_succ]
  refine wpAnyH_take (i := 2) (v := ?_) rfl (by kernel_rfl) (by kernel_rfl) (by kernel_rfl) (fun _ _ _ h => h) (Or.inl ⟨by rfl, ?_⟩) (by assumption) ?_
  rotate_left
  · intro w hSw
    (try dsimp only at hSw)
    go_simp
    try with_reducible rfl
  simp only [Act.put, List.getElem_toArray, List.getElem_cons_succ, List.getElem_cons_zero, List.setIfInBounds_toArray, List.set_cons_zero, List.set_cons_succ]
  refine wpAnyH_take (i := 4) (v := ?_) rfl (by kernel_rfl) (by kernel_rfl) (by kernel_rfl) (fun _ _ _ h => h) (Or.inl ⟨by rfl, ?_⟩) (by assumption) ?_
  rotate_left
  · intro w hSw
    (try dsimp only at hSw)
    go_simp
    try with_reducible rfl
  simp only [Act.put, List.getElem_toArray, List.getElem_cons_succ, List.getElem_cons_zero, List.setIfInBounds_toArray, List.set_cons_zero, List.set_cons_succ]
  refine wpAnyH_take (i := 5) (v := ?_) rfl (by kernel_rfl) (by kernel_rfl) (by kernel_rfl) (fun _ _ _ h => h) (Or.inl ⟨by rfl, ?_⟩) (by assumption) ?_
  rotate_left
  · intro w hSw
    (try dsimp only at hSw)
    go_simp
    try with_reducible rfl
  simp only [Act.put, List.getElem_toArray, List.getElem_cons_succ, List.getElem_cons_zero, List.setIfInBounds_toArray, List.set_cons_zero, List.set_cons_succ]
  refine wpAnyH_take (i := 6) (v := ?_) rfl (by kernel_rfl) (by kernel_rfl) (by kernel_rfl) (fun _ _ _ h => h) (Or.inl ⟨by rfl, ?_⟩) (by assumption) ?_
  rotate_left
  · intro w hSw
    (try dsimp only at hSw)
    go_simp
    try with_reducible rfl
  simp only [Act.put, List.getElem_toArray, List.getElem_cons_succ, List.getElem_cons_zero, List.setIfInBounds_toArray, List.set_cons_zero, List.set_cons_succ]
  refine wpAnyH_take (i := 7) (v := ?_) rfl (by kernel_rfl) (by kernel_rfl) (by kernel_rfl) (fun _ _ _ h => h) (Or.inl ⟨by rfl, ?_⟩) (by assumption) ?_
  rotate_left
  · intro w hSw
    (try dsimp only at hSw)
    go_simp
    try with_reducible rfl
  simp only [Act.put, List.getElem_toArray, List.getElem_cons_succ, List.getElem_cons_zero, List.setIfInBounds_toArray, List.set_cons_zero, List.set_cons_succ]
  refine wpAnyH_ready (rs := [3]) (by kernel_rfl) (by simp) ?_
  refine AllReadyH.cons rfl (fun K hK => ?_) AllReadyH.nil
  go_simp
  refine (A1.out _ (row_kept K0.out.drew R0.out)).mono ?_
  rintro e y1 ⟨rfl, q1⟩
  have B1 := blk_kept q1 (blk_drew BB.out)
  have K1 := hid (K0.out.drew.trans q1)
  have d1 : y1.cell? ⟨w.heap.size, 8, none⟩ = some (.slice va vn vc) := blk_cell B1 8
  clear q1
  refine hK.out _ _ (by go_keep) (fun hHeld => ?_)
  clear hK K
  try simp only [Act.put, List.getElem_toArray, List.getElem_cons_succ, List.getElem_cons_zero, List.setIfInBounds_toArray, List.set_cons_zero, List.set_cons_succ]
  refine wpAnyH_ready (rs := [8]) (by kernel_rfl) (by simp) ?_
  refine AllReadyH.cons rfl (fun K hK => ?_) AllReadyH.nil
  go_simp
  refine (A2.out _ (row_kept K1.out R0.out)).mono ?_
  rintro e y2 ⟨rfl, q2⟩
  have B2 := blk_kept q2 B1
  have K2 := hid (K1.out.trans q2)
  have d2 : y2.cell? ⟨w.heap.size, 8, none⟩ = some (.slice va vn vc) := blk_cell B2 8
  clear q2
  refine hK.out _ _ (by go_keep) (fun hHeld => ?_)
  clear hK K
  try simp only [Act.put, List.getElem_toArray, List.getElem_cons_succ, List.getElem_cons_zero, List.setIfInBounds_toArray, List.set_cons_zero, List.set_cons_succ]
  refine wpAnyH_take (i := 9) (v := ?_) rfl (by kernel_rfl) (by kernel_rfl) (by kernel_rfl) (fun _ _ _ h => h) (Or.inl ⟨by rfl, ?_⟩) (by assumption) ?_
  rotate_left
  · intro w hSw
    (try dsimp only at hSw)
    go_simp
    try with_reducible rfl
  simp only [Act.put, List.getElem_toArray, List.getElem_cons_succ, List.getElem_cons_zero, List.setIfInBounds_toArray, List.set_cons_zero, List.set_cons_succ]
  refine wpAnyH_take (i := 10) (v := ?_) rfl (by kernel_rfl) (by kernel_rfl) (by kernel_rfl) (fun _ _ _ h => h) (Or.inl ⟨by rfl, ?_⟩) (by assumption) ?_
  rotate_left
  · intro w hSw
    (try dsimp only at hSw)
    go_simp
    try with_reducible rfl
  simp only [Act.put, List.getElem_toArray, List.getElem_cons_succ, List.getElem_cons_zero, List.setIfInBounds_toArray, List.set_cons_zero, List.set_cons_succ]
  refine wpAnyH_done (by kernel_rfl) ?_ _
  go_wp2_with fail
  refine bodyPost_ret (results_tmp2 rfl _ _ _) rfl ?_
  exact ⟨rfl, K2.out⟩
theorem ten18 {u : World} {b : Nat} {t : TypeId} {ctl scy scx wy wx bgp o0 o1 : Int} {va oa : Option Addr} {vn vc on oc : Nat} (h : Blk u b t [.int .u8 ctl, .int .u8 scy, .int .u8 scx, .int .u8 wy, .int .u8 wx, .int .u8 bgp, .int .u8 o0, .int .u8 o1, .slice va vn vc, .slice oa on oc]) : u.cell? ⟨b, 0, none⟩ = some (.int .u8 ctl) ∧ u.cell? ⟨b, 1, none⟩ = some (.int .u8 scy) ∧ u.cell? ⟨b, 2, none⟩ = some (.int .u8 scx) ∧ u.cell? ⟨b, 3, none⟩ = some (.int .u8 wy) ∧ u.cell? ⟨b, 4, none⟩ = some (.int .u8 wx) ∧ u.cell? ⟨b, 5, none⟩ = some (.int .u8 bgp) ∧ u.cell? ⟨b, 6, none⟩ = some (.int .u8 o0) ∧ u.cell? ⟨b, 7, none⟩ = some (.int .u8 o1) ∧ u.cell? ⟨b, 8, none⟩ = some (.slice va vn vc) ∧ u.cell? ⟨b, 9, none⟩ = some (.slice oa on oc) :=
  ⟨blk_cell h 0, blk_cell h 1, blk_cell h 2, blk_cell h 3, blk_cell h 4, blk_cell h 5, blk_cell h 6, blk_cell h 7, blk_cell h 8, blk_cell h 9⟩
set_option maxRecDepth 100000 in
set_option maxHeartbeats 4000000 in
theorem pcol18 (v : Vd) (h : Bool) (a b : Int) (w : World) (hv : VdIn w v) (a0 : 0 ≤ a) (a1 : a ≤ 255) (b0 : 0 ≤ b) (b1 : b ≤ 255) : Calls Try.prog 33 #[vdV v, .bool h, .int .u8 a, .int .u8 b] w fun e w' => e = .returned (.int .u8 (celP v h a b)) ∧ Kept w w' := by
  unfold celP
  have CE := hid (fun u => pcell17 a b h u a0 a1 b0 b1)
  have A1 := hid (fun u h2 => pat17 v.va v.vc v.vz (cellP h a b) u h2)
  have tb := at_bd hv.vs.row.2.1 (cellP h a b)
  generalize cellP h a b = cc at *
  generalize atP v.vz cc = t at *
  have B4 := hid (fun u => bit_any v.ctl 4 u hv.c0 hv.c1)
  generalize bitOf v.ctl 4 = s4 at *
  have RO : Hid (∀ u, Kept w u → _) := fun u k => prow18 v t b (!s4) u (vdIn_kept k hv) tb.1 tb.2
  have l1 := at_bd hv.vs.row.2.1 (placeP t (!s4) b)
  have l2 := at_bd hv.vs.row.2.1 (placeP t (!s4) b + 1)
  generalize atP v.vz (placeP t (!s4) b) = lo at *
  generalize atP v.vz (placeP t (!s4) b + 1) = hi at *
  have PX := hid (fun u => ppix17 lo hi (a % 8) u l1.1 l1.2 l2.1 l2.2)
  generalize pixP lo hi (a % 8) = px at *
  have R0 := hid hv.vs.row
  clear hv
  have m1 : Int.tmod a 8 = a % 8 := Int.tmod_eq_emod_of_nonneg a0
  have e2 : IntKind.u8.wrap (a % 8) = a % 8 := by rw [IntKind.wrap_u8]; omega
  have e3 : IntKind.i64.wrap (a % 8) = a % 8 := by rw [IntKind.wrap_i64]; omega
  have e4 : IntKind.i64.wrap b = b := by rw [IntKind.wrap_i64]; omega
  obtain ⟨ctl, scy, scx, wy, wx, bgp, o0, o1, va, vc, vz, oa, oc, oz⟩ := v
  simp only [vdV] at *
  obtain ⟨vn, hvn⟩ : ∃ n, vz.length = n := ⟨_, rfl⟩
  obtain ⟨on, hon⟩ : ∃ n, oz.length = n := ⟨_, rfl⟩
  rw [hvn] at A1 RO
  rw [hon] at RO
  rw [hvn, hon]
  clear hvn hon
  have K0 := hid ((Kept.refl w).alloc (.cells #[.int .u8 ctl, .int .u8 scy, .int .u8 scx, .int .u8 wy, .int .u8 wx, .int .u8 bgp, .int .u8 o0, .int .u8 o1, .slice va vn vc, .slice oa on oc] 24))
  have BB : Hid (Blk (w.alloc (.cells #[.int .u8 ctl, .int .u8 scy, .int .u8 scx, .int .u8 wy, .int .u8 wx, .int .u8 bgp, .int .u8 o0, .int .u8 o1, .slice va vn vc, .slice oa on oc] 24)) w.heap.size 24 [.int .u8 ctl, .int .u8 scy, .int .u8 scx, .int .u8 wy, .int .u8 wx, .int .u8 bgp, .int .u8 o0, .int .u8 o1, .slice va vn vc, .slice oa on oc]) := blk_new w _ _
  obtain ⟨d0, d1, d2, d3, d4, d5, d6, d7, d8, d9⟩ := ten18 BB.out
  go_enter Try.func33, Try.ntmps33
  go_wp2_with fail
  refine wp_region_held_drew (S := (fun w' => w'.cell? ⟨w.heap.size, 8, none⟩ = some (.slice va vn vc))) (by kernel_rfl) (by go_keep) (fun hHeld => ?_)
  refine wpAnyH_take (i := 0) (v := ?_) rfl (by kernel_rfl) (by kernel_rfl) (by kernel_rfl) (fun _ _ _ h => h) (Or.inl ⟨by rfl, ?_⟩) (by assumption) ?_
  rotate_left
  · intro w hSw
    (try dsimp only at hSw)
    go_simp
    try with_reducible rfl
  simp only [Act.put, List.getElem_toArray, List.getElem_cons_succ, List.getElem_cons_zero, List.setIfInBounds_toArray, List.set_cons_zero, List.set_cons_succ]
  refine wpAnyH_take (i := 1) (v := ?_) rfl (by kernel_rfl) (by kernel_rfl) (by kernel_rfl) (fun _ _ _ h => h) (Or.inl ⟨by rfl, ?_⟩) (by assumption) ?_
  rotate_left
  · intro w hSw
    (try dsimp only at hSw)
    go_simp
    try with_reducible rfl
  simp only [Act.put, List.getElem_toArray, List.getElem_cons_succ, List.getElem_cons_zero, List.setIfInBounds_toArray, List.set_cons_zero, List.set_cons_succ]
  refine wpAnyH_take (i := 2) (v := ?_) rfl (by kernel_rfl) (by kernel_rfl) (by kernel_rfl) (fun _ _ _ h => h) (Or.inl ⟨by rfl, ?_⟩) (by assumption) ?_
  rotate_left
  · intro w hSw
    (try dsimp only at hSw)
    go_simp
    try with_reducible rfl
  simp only [Act.put, List.getElem_toArray, List.getElem_cons_succ, List.getElem_cons_zero, List.setIfInBounds_toArray, List.set_cons_zero, List.set_cons_succ]
  refine wpAnyH_take (i := 3) (v := ?_) rfl (by kernel_rfl) (by kernel_rfl) (by kernel_rfl) (fun _ _ _ h => h) (Or.inl ⟨by rfl, ?_⟩) (by assumption) ?_
  rotate_left
  · intro w hSw
    (try dsimp only at hSw)
    go_simp
    try with_reducible rfl
  simp only [Act.put, List.getElem_toArray, List.getElem_cons_succ, List.getElem_cons_zero, List.setIfInBounds_toArray, List.set_cons_zero, List.set_cons_succ]
  refine wpAnyH_take (i := 4) (v := ?_) rfl (by kernel_rfl) (by kernel_rfl) (by kernel_rfl) (fun _ _ _ h => h) (Or.inl ⟨by rfl, ?_⟩) (by assumption) ?_
  rotate_left
  · intro w hSw
    (try dsimp only at hSw)
    go_simp
    try with_reducible rfl
  simp only [Act.put, List.getElem_toArray, List.getElem_cons_succ, List.getElem_cons_zero, List.setIfInBounds_toArray, List.set_cons_zero, List.set_cons_succ]
  refine wpAnyH_ready (rs := [5]) (by kernel_rfl) (by simp) ?_
  refine AllReadyH.cons rfl (fun K hK => ?_) AllReadyH.nil
  go_simp
  refine (CE.out _).mono ?_
  rintro e y1 ⟨rfl, rfl⟩
  have e8 : (w.alloc (.cells #[.int .u8 ctl, .int .u8 scy, .int .u8 scx, .int .u8 wy, .int .u8 wx, .int .u8 bgp, .int .u8 o0, .int .u8 o1, .slice va vn vc, .slice oa on oc] 24)).drew.cell? ⟨w.heap.size, 8, none⟩ = some (.slice va vn vc) := d8
  refine hK.out _ _ (by go_keep) (fun hHeld => ?_)
  clear hK K
  try simp only [Act.put, List.getElem_toArray, List.getElem_cons_succ, List.getElem_cons_zero, List.setIfInBounds_toArray, List.set_cons_zero, List.set_cons_succ]
  refine wpAnyH_ready (rs := [6]) (by kernel_rfl) (by simp) ?_
  refine AllReadyH.cons rfl (fun K hK => ?_) AllReadyH.nil
  go_simp
  refine (A1.out _ (row_kept K0.out.drew R0.out)).mono ?_
  rintro e y1 ⟨rfl, q1⟩
  have B1 := hid (blk_kept q1 (blk_drew BB.out))
  have K1 := hid (K0.out.drew.trans q1)
  obtain ⟨f0, f1, f2, f3, f4, f5, f6, f7, f8, f9⟩ := ten18 B1.out
  clear q1
  refine hK.out _ _ (by go_keep) (fun hHeld => ?_)
  clear hK K
  try simp only [Act.put, List.getElem_toArray, List.getElem_cons_succ, List.getElem_cons_zero, List.setIfInBounds_toArray, List.set_cons_zero, List.set_cons_succ]
  refine wpAnyH_take (i := 7) (v := ?_) rfl (by kernel_rfl) (by kernel_rfl) (by kernel_rfl) (fun _ _ _ h => h) (Or.inl ⟨by rfl, ?_⟩) (by assumption) ?_
  rotate_left
  · intro w hSw
    (try dsimp only at hSw)
    go_simp
    try with_reducible rfl
  simp only [Act.put, List.getElem_toArray, List.getElem_cons_succ, List.getElem_cons_zero, List.setIfInBounds_toArray, List.set_cons_zero, List.set_cons_succ]
  refine wpAnyH_done (by kernel_rfl) ?_ _
  clear d0 d1 d2 d3 d4 d5 d6 d7 d8 d9 e8 hHeld
  go_wp2_with fail
  refine wp_region_held_drew (S := (fun w' => w'.cell? ⟨w.heap.size, 0, none⟩ = some (.int .u8 ctl) ∧ w'.cell? ⟨w.heap.size, 1, none⟩ = some (.int .u8 scy) ∧ w'.cell? ⟨w.heap.size, 2, none⟩ = some (.int .u8 scx) ∧ w'.cell? ⟨w.heap.size, 3, none⟩ = some (.int .u8 wy) ∧ w'.cell? ⟨w.heap.size, 4, none⟩ = some (.int .u8 wx) ∧ w'.cell? ⟨w.heap.size, 5, none⟩ = some (.int .u8 bgp) ∧ w'.cell? ⟨w.heap.size, 6, none⟩ = some (.int .u8 o0) ∧ w'.cell? ⟨w.heap.size, 7, none⟩ = some (.int .u8 o1) ∧ w'.cell? ⟨w.heap.size, 8, none⟩ = some (.slice va vn vc) ∧ w'.cell? ⟨w.heap.size, 9, none⟩ = some (.slice oa on oc))) (by kernel_rfl) (by go_keep) (fun hHeld => ?_)
  refine wpAnyH_take (i := 0) (v := ?_) rfl (by kernel_rfl) (by kernel_rfl) (by kernel_rfl) (fun _ _ _ h => h) (Or.inl ⟨by rfl, ?_⟩) (by assumption) ?_
  rotate_left
  · intro w hSw
    (try dsimp only at hSw)
    obtain ⟨s0, s1, s2, s3, s4, s5, s6, s7, s8, s9⟩ := hSw
    go_simp
    try with_reducible rfl
  simp only [Act.put, List.getElem_toArray, List.getElem_cons_succ, List.getElem_cons_zero, List.setIfInBounds_toArray, List.set_cons_zero, List.set_cons_succ]
  refine wpAnyH_take (i := 1) (v := ?_) rfl (by kernel_rfl) (by kernel_rfl) (by kernel_rfl) (fun _ _ _ h => h) (Or.inl ⟨by rfl, ?_⟩) (by assumption) ?_
  rotate_left
  · intro w hSw
    (try dsimp only at hSw)
    obtain ⟨s0, s1, s2, s3, s4, s5, s6, s7, s8, s9⟩ := hSw
    go_simp
    try with_reducible rfl
  simp only [Act.put, List.getElem_toArray, List.getElem_cons_succ, List.getElem_cons_zero, List.setIfInBounds_toArray, List.set_cons_zero, List.set_cons_succ]
  refine wpAnyH_take (i := 2) (v := ?_) rfl (by kernel_rfl) (by kernel_rfl) (by kernel_rfl) (fun _ _ _ h => h) (Or.inl ⟨by rfl, ?_⟩) (by assumption) ?_
  rotate_left
  · intro w hSw
    (try dsimp only at hSw)
    obtain ⟨s0, s1, s2, s3, s4, s5, s6, s7, s8, s9⟩ := hSw
    go_simp
    try with_reducible rfl
  simp only [Act.put, List.getElem_toArray, List.getElem_cons_succ, List.getElem_cons_zero, List.setIfInBounds_toArray, List.set_cons_zero, List.set_cons_succ]
  refine wpAnyH_take (i := 3) (v := ?_) rfl (by kernel_rfl) (by kernel_rfl) (by kernel_rfl) (fun _ _ _ h => h) (Or.inl ⟨by rfl, ?_⟩) (by assumption) ?_
  rotate_left
  · intro w hSw
    (try dsimp only at hSw)
    obtain ⟨s0, s1, s2, s3, s4, s5, s6, s7, s8, s9⟩ := hSw
    go_simp
    try with_reducible rfl
  simp only [Act.put, List.getElem_toArray, List.getElem_cons_succ, List.getElem_cons_zero, List.setIfInBounds_toArray, List.set_cons_zero, List.set_cons_succ]
  refine wpAnyH_take (i := 6) (v := ?_) rfl (by kernel_rfl) (by kernel_rfl) (by kernel_rfl) (fun _ _ _ h => h) (Or.inl ⟨by rfl, ?_⟩) (by assumption) ?_
  rotate_left
  · intro w hSw
    (try dsimp only at hSw)
    obtain ⟨s0, s1, s2, s3, s4, s5, s6, s7, s8, s9⟩ := hSw
    go_simp
    try with_reducible rfl
  simp only [Act.put, List.getElem_toArray, List.getElem_cons_succ, List.getElem_cons_zero, List.setIfInBounds_toArray, List.set_cons_zero, List.set_cons_succ]
  refine wpAnyH_take (i := 7) (v := ?_) rfl (by kernel_rfl) (by kernel_rfl) (by kernel_rfl) (fun _ _ _ h => h) (Or.inl ⟨by rfl, ?_⟩) (by assumption) ?_
  rotate_left
  · intro w hSw
    (try dsimp only at hSw)
    obtain ⟨s0, s1, s2, s3, s4, s5, s6, s7, s8, s9⟩ := hSw
    go_simp
    try with_reducible rfl
  simp only [Act.put, List.getElem_toArray, List.getElem_cons_succ, List.getElem_cons_zero, List.setIfInBounds_toArray, List.set_cons_zero, List.set_cons_succ]
  refine wpAnyH_ready (rs := [4]) (by kernel_rfl) (by simp) ?_
  refine AllReadyH.cons rfl (fun K hK => ?_) AllReadyH.nil
  go_simp
  refine (B4.out _).mono ?_
  rintro e y2 ⟨rfl, rfl⟩
  obtain ⟨g0, g1, g2, g3, g4, g5, g6, g7, g8, g9⟩ := ten18 (blk_drew B1.out)
  refine hK.out _ _ (by go_keep) (fun hHeld => ?_)
  clear hK K
  try simp only [Act.put, List.getElem_toArray, List.getElem_cons_succ, List.getElem_cons_zero, List.setIfInBounds_toArray, List.set_cons_zero, List.set_cons_succ]
  refine wpAnyH_take (i := 5) (v := ?_) rfl (by kernel_rfl) (by kernel_rfl) (by kernel_rfl) (fun _ _ _ h => h) (Or.inl ⟨by rfl, ?_⟩) (by assumption) ?_
  rotate_left
  · intro w hSw
    (try dsimp only at hSw)
    obtain ⟨s0, s1, s2, s3, s4, s5, s6, s7, s8, s9⟩ := hSw
    go_simp
    try with_reducible rfl
  simp only [Act.put, List.getElem_toArray, List.getElem_cons_succ, List.getElem_cons_zero, List.setIfInBounds_toArray, List.set_cons_zero, List.set_cons_succ]
  refine wpAnyH_ready (rs := [8]) (by kernel_rfl) (by simp) ?_
  refine AllReadyH.cons rfl (fun K hK => ?_) AllReadyH.nil
  go_simp
  refine (RO.out _ K1.out.drew).mono ?_
  rintro e y3 ⟨rfl, q3⟩
  have B3 := blk_kept q3 (blk_drew B1.out)
  have K3 := hid (K1.out.drew.trans q3)
  obtain ⟨h0, h1, h2, h3, h4, h5, h6, h7, h8, h9⟩ := ten18 B3
  clear q3
  refine hK.out _ _ (by go_keep) (fun hHeld => ?_)
  clear hK K
  try simp only [Act.put, List.getElem_toArray, List.getElem_cons_succ, List.getElem_cons_zero, List.setIfInBounds_toArray, List.set_cons_zero, List.set_cons_succ]
  refine wpAnyH_take (i := 9) (v := ?_) rfl (by kernel_rfl) (by kernel_rfl) (by kernel_rfl) (fun _ _ _ h => h) (Or.inl ⟨by rfl, ?_⟩) (by assumption) ?_
  rotate_left
  · intro w hSw
    (try dsimp only at hSw)
    obtain ⟨s0, s1, s2, s3, s4, s5, s6, s7, s8, s9⟩ := hSw
    go_simp
    try with_reducible rfl
  simp only [Act.put, List.getElem_toArray, List.getElem_cons_succ, List.getElem_cons_zero, List.setIfInBounds_toArray, List.set_cons_zero, List.set_cons_succ]
  refine wpAnyH_take (i := 10) (v := ?_) rfl (by kernel_rfl) (by kernel_rfl) (by kernel_rfl) (fun _ _ _ h => h) (Or.inl ⟨by rfl, ?_⟩) (by assumption) ?_
  rotate_left
  · intro w hSw
    (try dsimp only at hSw)
    obtain ⟨s0, s1, s2, s3, s4, s5, s6, s7, s8, s9⟩ := hSw
    go_simp
    try with_reducible rfl
  simp only [Act.put, List.getElem_toArray, List.getElem_cons_succ, List.getElem_cons_zero, List.setIfInBounds_toArray, List.set_cons_zero, List.set_cons_succ]
  refine wpAnyH_take (i := 11) (v := ?_) rfl (by kernel_rfl) (by kernel_rfl) (by kernel_rfl) (fun _ _ _ h => h) (Or.inl ⟨by rfl, ?_⟩) (by assumption) ?_
  rotate_left
  · intro w hSw
    (try dsimp only at hSw)
    obtain ⟨s0, s1, s2, s3, s4, s5, s6, s7, s8, s9⟩ := hSw
    go_simp
    try with_reducible rfl
  simp only [Act.put, List.getElem_toArray, List.getElem_cons_succ, List.getElem_cons_zero, List.setIfInBounds_toArray, List.set_cons_zero, List.set_cons_succ]
  refine wpAnyH_take (i := 12) (v := ?_) rfl (by kernel_rfl) (by kernel_rfl) (by kernel_rfl) (fun _ _ _ h => h) (Or.inl ⟨by rfl, ?_⟩) (by assumption) ?_
  rotate_left
  · intro w hSw
    (try dsimp only at hSw)
    obtain ⟨s0, s1, s2, s3, s4, s5, s6, s7, s8, s9⟩ := hSw
    go_simp
    try with_reducible rfl
  simp only [Act.put, List.getElem_toArray, List.getElem_cons_succ, List.getElem_cons_zero, List.setIfInBounds_toArray, List.set_cons_zero, List.set_cons_succ]
  refine wpAnyH_take (i := 13) (v := ?_) rfl (by kernel_rfl) (by kernel_rfl) (by kernel_rfl) (fun _ _ _ h => h) (Or.inl ⟨by rfl, ?_⟩) (by assumption) ?_
  rotate_left
  · intro w hSw
    (try dsimp only at hSw)
    obtain ⟨s0, s1, s2, s3, s4, s5, s6, s7, s8, s9⟩ := hSw
    go_simp
    try with_reducible rfl
  simp only [Act.put, List.getElem_toArray, List.getElem_cons_succ, List.getElem_cons_zero, List.setIfInBounds_toArray, List.set_cons_zero, List.set_cons_succ]
  refine wpAnyH_done (by kernel_rfl) ?_ _
  clear hHeld
  go_wp2_with fail
  refine (PX.out _).mono ?_
  rintro e y4 ⟨rfl, q4⟩
  have K4 := hid (K3.out.trans q4)
  clear q4
  go_wp2
  go_ret
  exact ⟨rfl, K4.out⟩
set_option maxRecDepth 100000 in
set_option maxHeartbeats 4000000 in
theorem ppal18 (v : Vd) (o : Ob) (w : World) (hv : VdIn w v) : Calls Try.prog 39 #[vdV v, obV o] w fun e w' => e = .returned (.int .u8 (palP v o)) ∧ Kept w w' := by
  unfold palP
  have B4 := hid (fun u => bit_any (o.2.2.2.1.val : Int) 4 u (by omega) (by omega))
  generalize bitOf (o.2.2.2.1.val : Int) 4 = b at *
  obtain ⟨ctl, scy, scx, wy, wx, bgp, o0, o1, va, vc, vz, oa, oc, oz⟩ := v
  obtain ⟨⟨oy, ly⟩, ⟨ox, lx⟩, ⟨ot, lt⟩, ⟨oatt, la⟩, ⟨onn, ln⟩⟩ := o
  simp only [vdV, obV, b8] at *
  clear hv
  obtain ⟨vn, hvn⟩ : ∃ n, vz.length = n := ⟨_, rfl⟩
  obtain ⟨on, hon⟩ : ∃ n, oz.length = n := ⟨_, rfl⟩
  rw [hvn, hon]
  clear hvn hon
  cases b
  all_goals
    go_enter Try.func39, Try.ntmps39
    go_wp2_with fail
    refine (B4.out _).mono ?_
    rintro e u ⟨rfl, rfl⟩
    go_wp2
    go_ret
    exact ⟨rfl, ((Kept.refl w).alloc _).alloc _⟩
end Go.Proofs.Ytecgpdjgbdobbaa
namespace Go.Proofs.Ytecgpdjgbdobbaa
open Go.RowKit
set_option linter.unusedVariables false
set_option linter.unusedSimpArgs false

set_option maxRecDepth 100000 in
set_option maxHeartbeats 4000000 in
theorem rctl18 (v : Vd) (n : Int) (w : World) (hv : VdIn w v) : Calls Try.prog 20 #[vdV v, .int .i64 n] w fun e w' => e = .returned (.bool (bitOf v.ctl n)) ∧ Kept w w' := by
  have BI := hid (fun u => rbit_any v.ctl n u hv.c0 hv.c1)
  clear hv
  obtain ⟨vn, hvn⟩ : ∃ n, v.vz.length = n := ⟨_, rfl⟩
  obtain ⟨on, hon⟩ : ∃ n, v.oz.length = n := ⟨_, rfl⟩
  have VV : vdV v = .agg #[.int .u8 v.ctl, .int .u8 v.scy, .int .u8 v.scx, .int .u8 v.wy, .int .u8 v.wx, .int .u8 v.bgp, .int .u8 v.o0, .int .u8 v.o1, .slice v.va vn v.vc, .slice v.oa on v.oc] := by unfold vdV; rw [hvn, hon]
  rw [VV]
  clear hvn hon VV
  have K1 : Hid (Kept w (w.alloc (.cells #[.int .u8 v.ctl, .int .u8 v.scy, .int .u8 v.scx, .int .u8 v.wy, .int .u8 v.wx, .int .u8 v.bgp, .int .u8 v.o0, .int .u8 v.o1, .slice v.va vn v.vc, .slice v.oa on v.oc] 24))) := (Kept.refl w).alloc _
  have B1 : Hid (Blk (w.alloc (.cells #[.int .u8 v.ctl, .int .u8 v.scy, .int .u8 v.scx, .int .u8 v.wy, .int .u8 v.wx, .int .u8 v.bgp, .int .u8 v.o0, .int .u8 v.o1, .slice v.va vn v.vc, .slice v.oa on v.oc] 24)) w.heap.size 24 [.int .u8 v.ctl, .int .u8 v.scy, .int .u8 v.scx, .int .u8 v.wy, .int .u8 v.wx, .int .u8 v.bgp, .int .u8 v.o0, .int .u8 v.o1, .slice v.va vn v.vc, .slice v.oa on v.oc]) := blk_new w _ _
  go_enter Try.func20, Try.ntmps20
  go_wp2_with fail
  refine (BI.out _).mono ?_
  rintro e ux ⟨rfl, rfl⟩
  go_wp2
  go_ret
  exact ⟨rfl, K1.out⟩
set_option maxRecDepth 100000 in
set_option maxHeartbeats 4000000 in
theorem rwin18 (v : Vd) (y : Int) (w : World) (hv : VdIn w v) (y0 : 0 ≤ y) (y1 : y ≤ 255) : Calls Try.prog 11 #[vdV v, .int .u8 y] w fun e w' => e = .returned (.bool (winP v y)) ∧ Kept w w' := by
  have C0 := hid (fun u k => rctl18 v 0 u (vdIn_kept k hv))
  have C5 := hid (fun u k => rctl18 v 5 u (vdIn_kept k hv))
  unfold winP
  have t0 := hv.t0
  have t1 := hv.t1
  have u0 := hv.u0
  have u1 := hv.u1
  clear hv
  obtain ⟨vn, hvn⟩ : ∃ n, v.vz.length = n := ⟨_, rfl⟩
  obtain ⟨on, hon⟩ : ∃ n, v.oz.length = n := ⟨_, rfl⟩
  have VV : vdV v = .agg #[.int .u8 v.ctl, .int .u8 v.scy, .int .u8 v.scx, .int .u8 v.wy, .int .u8 v.wx, .int .u8 v.bgp, .int .u8 v.o0, .int .u8 v.o1, .slice v.va vn v.vc, .slice v.oa on v.oc] := by unfold vdV; rw [hvn, hon]
  rw [VV] at C0 C5 ⊢
  clear hvn hon VV
  have K1 : Hid (Kept w (w.alloc (.cells #[.int .u8 v.ctl, .int .u8 v.scy, .int .u8 v.scx, .int .u8 v.wy, .int .u8 v.wx, .int .u8 v.bgp, .int .u8 v.o0, .int .u8 v.o1, .slice v.va vn v.vc, .slice v.oa on v.oc] 24))) := (Kept.refl w).alloc _
  have B1 : Hid (Blk (w.alloc (.cells #[.int .u8 v.ctl, .int .u8 v.scy, .int .u8 v.scx, .int .u8 v.wy, .int .u8 v.wx, .int .u8 v.bgp, .int .u8 v.o0, .int .u8 v.o1, .slice v.va vn v.vc, .slice v.oa on v.oc] 24)) w.heap.size 24 [.int .u8 v.ctl, .int .u8 v.scy, .int .u8 v.scx, .int .u8 v.wy, .int .u8 v.wx, .int .u8 v.bgp, .int .u8 v.o0, .int .u8 v.o1, .slice v.va vn v.vc, .slice v.oa on v.oc]) := blk_new w _ _
  cases q0 : bitOf v.ctl 0
  · rw [q0] at C0
    simp only [Bool.false_and]
    clear q0 C5
    go_enter Try.func11, Try.ntmps11
    obtain ⟨d0, d1, d2, d3, d4, d5, d6, d7, d8, d9⟩ := ten18 B1.out
    go_wp2_with fail
    refine (C0.out _ K1.out).mono ?_
    rintro e u1 ⟨rfl, k1⟩
    have K2 := hid (K1.out.trans k1)
    have B2 := hid (blk_kept k1 B1.out)
    clear k1 K1 B1 d0 d1 d2 d3 d4 d5 d6 d7 d8 d9
    obtain ⟨d0, d1, d2, d3, d4, d5, d6, d7, d8, d9⟩ := ten18 B2.out
    go_wp2
    go_ret
    exact ⟨rfl, K2.out⟩
  · cases q5 : bitOf v.ctl 5
    · rw [q0] at C0
      rw [q5] at C5
      simp only [Bool.and_false, Bool.false_and]
      clear q0 q5
      go_enter Try.func11, Try.ntmps11
      obtain ⟨d0, d1, d2, d3, d4, d5, d6, d7, d8, d9⟩ := ten18 B1.out
      go_wp2_with fail
      refine (C0.out _ K1.out).mono ?_
      rintro e u1 ⟨rfl, k1⟩
      have K2 := hid (K1.out.trans k1)
      have B2 := hid (blk_kept k1 B1.out)
      clear k1 K1 B1 d0 d1 d2 d3 d4 d5 d6 d7 d8 d9
      obtain ⟨d0, d1, d2, d3, d4, d5, d6, d7, d8, d9⟩ := ten18 B2.out
      go_wp2_with fail
      refine (C5.out _ K2.out).mono ?_
      rintro e u2 ⟨rfl, k1⟩
      have K3 := hid (K2.out.trans k1)
      have B3 := hid (blk_kept k1 B2.out)
      clear k1 K2 B2 d0 d1 d2 d3 d4 d5 d6 d7 d8 d9
      obtain ⟨d0, d1, d2, d3, d4, d5, d6, d7, d8, d9⟩ := ten18 B3.out
      go_wp2
      go_ret
      exact ⟨rfl, K3.out⟩
    · rw [q0] at C0
      rw [q5] at C5
      simp only [Bool.true_and]
      clear q0 q5
      by_cases gy : v.wy ≤ y
      · by_cases gx : v.wx ≤ 166
        · go_enter Try.func11, Try.ntmps11
          obtain ⟨d0, d1, d2, d3, d4, d5, d6, d7, d8, d9⟩ := ten18 B1.out
          go_wp2_with fail
          refine (C0.out _ K1.out).mono ?_
          rintro e u1 ⟨rfl, k1⟩
          have K2 := hid (K1.out.trans k1)
          have B2 := hid (blk_kept k1 B1.out)
          clear k1 K1 B1 d0 d1 d2 d3 d4 d5 d6 d7 d8 d9
          obtain ⟨d0, d1, d2, d3, d4, d5, d6, d7, d8, d9⟩ := ten18 B2.out
          go_wp2_with fail
          refine (C5.out _ K2.out).mono ?_
          rintro e u2 ⟨rfl, k1⟩
          have K3 := hid (K2.out.trans k1)
          have B3 := hid (blk_kept k1 B2.out)
          clear k1 K2 B2 d0 d1 d2 d3 d4 d5 d6 d7 d8 d9
          obtain ⟨d0, d1, d2, d3, d4, d5, d6, d7, d8, d9⟩ := ten18 B3.out
          go_wp2
          go_ret
          exact ⟨by simp [gy, gx], K3.out⟩
        · go_enter Try.func11, Try.ntmps11
          obtain ⟨d0, d1, d2, d3, d4, d5, d6, d7, d8, d9⟩ := ten18 B1.out
          go_wp2_with fail
          refine (C0.out _ K1.out).mono ?_
          rintro e u1 ⟨rfl, k1⟩
          have K2 := hid (K1.out.trans k1)
          have B2 := hid (blk_kept k1 B1.out)
          clear k1 K1 B1 d0 d1 d2 d3 d4 d5 d6 d7 d8 d9
          obtain ⟨d0, d1, d2, d3, d4, d5, d6, d7, d8, d9⟩ := ten18 B2.out
          go_wp2_with fail
          refine (C5.out _ K2.out).mono ?_
          rintro e u2 ⟨rfl, k1⟩
          have K3 := hid (K2.out.trans k1)
          have B3 := hid (blk_kept k1 B2.out)
          clear k1 K2 B2 d0 d1 d2 d3 d4 d5 d6 d7 d8 d9
          obtain ⟨d0, d1, d2, d3, d4, d5, d6, d7, d8, d9⟩ := ten18 B3.out
          go_wp2
          go_ret
          exact ⟨by simp [gy, gx], K3.out⟩
      · go_enter Try.func11, Try.ntmps11
        obtain ⟨d0, d1, d2, d3, d4, d5, d6, d7, d8, d9⟩ := ten18 B1.out
        go_wp2_with fail
        refine (C0.out _ K1.out).mono ?_
        rintro e u1 ⟨rfl, k1⟩
        have K2 := hid (K1.out.trans k1)
        have B2 := hid (blk_kept k1 B1.out)
        clear k1 K1 B1 d0 d1 d2 d3 d4 d5 d6 d7 d8 d9
        obtain ⟨d0, d1, d2, d3, d4, d5, d6, d7, d8, d9⟩ := ten18 B2.out
        go_wp2_with fail
        refine (C5.out _ K2.out).mono ?_
        rintro e u2 ⟨rfl, k1⟩
        have K3 := hid (K2.out.trans k1)
        have B3 := hid (blk_kept k1 B2.out)
        clear k1 K2 B2 d0 d1 d2 d3 d4 d5 d6 d7 d8 d9
        obtain ⟨d0, d1, d2, d3, d4, d5, d6, d7, d8, d9⟩ := ten18 B3.out
        go_wp2
        go_ret
        exact ⟨by simp; omega, K3.out⟩
set_option maxRecDepth 100000 in
set_option maxHeartbeats 4000000 in
theorem rcell18 (v : Vd) (h : Bool) (a b : Int) (w : World) (hv : VdIn w v) (a0 : 0 ≤ a) (a1 : a ≤ 255) (b0 : 0 ≤ b) (b1 : b ≤ 255) : Calls Try.prog 58 #[vdV v, .bool h, .int .i64 a, .int .i64 b] w fun e w' => e = .returned (.int .u8 (celP v h a b)) ∧ Kept w w' := by
  unfold celP
  have CE := hid (fun u => rcell17 a b h u a0 a1 b0 b1)
  have A1 := hid (fun u h2 => rat17 v.va v.vc v.vz (cellP h a b) u h2)
  have tb := at_bd hv.vs.row.2.1 (cellP h a b)
  generalize cellP h a b = cc at *
  generalize atP v.vz cc = t at *
  have C4 := hid (fun u k => rctl18 v 4 u (vdIn_kept k hv))
  generalize bitOf v.ctl 4 = s4 at *
  have PL := hid (fun u => rplace17 t b (!s4) u tb.1 tb.2)
  have pb := place_bd tb.1 tb.2 (!s4) b
  generalize placeP t (!s4) b = p at *
  have A2 := hid (fun u h2 => rat17 v.va v.vc v.vz p u h2)
  have A3 := hid (fun u h2 => rat17 v.va v.vc v.vz (p + 1) u h2)
  have l1 := at_bd hv.vs.row.2.1 p
  have l2 := at_bd hv.vs.row.2.1 (p + 1)
  generalize atP v.vz p = lo at *
  generalize atP v.vz (p + 1) = hi at *
  have PX := hid (fun u => rpix17 lo hi (a % 8) u l1.1 l1.2 l2.1 l2.2)
  generalize pixP lo hi (a % 8) = px at *
  have R0 := hid hv.vs.row
  clear hv
  have m1 : Int.tmod a 8 = a % 8 := Int.tmod_eq_emod_of_nonneg a0
  have e1 : IntKind.u8.wrap a = a := by rw [IntKind.wrap_u8]; omega
  have e2 : IntKind.u8.wrap b = b := by rw [IntKind.wrap_u8]; omega
  have e3 : IntKind.i64.wrap (a % 8) = a % 8 := by rw [IntKind.wrap_i64]; omega
  have e4 : IntKind.i64.wrap (p + 1) = p + 1 := by rw [IntKind.wrap_i64]; omega
  obtain ⟨vn, hvn⟩ : ∃ n, v.vz.length = n := ⟨_, rfl⟩
  obtain ⟨on, hon⟩ : ∃ n, v.oz.length = n := ⟨_, rfl⟩
  have VV : vdV v = .agg #[.int .u8 v.ctl, .int .u8 v.scy, .int .u8 v.scx, .int .u8 v.wy, .int .u8 v.wx, .int .u8 v.bgp, .int .u8 v.o0, .int .u8 v.o1, .slice v.va vn v.vc, .slice v.oa on v.oc] := by unfold vdV; rw [hvn, hon]
  rw [VV] at C4 ⊢
  rw [hvn] at A1
  rw [hvn] at A2
  rw [hvn] at A3
  clear hvn hon VV
  have K1 : Hid (Kept w (w.alloc (.cells #[.int .u8 v.ctl, .int .u8 v.scy, .int .u8 v.scx, .int .u8 v.wy, .int .u8 v.wx, .int .u8 v.bgp, .int .u8 v.o0, .int .u8 v.o1, .slice v.va vn v.vc, .slice v.oa on v.oc] 24))) := (Kept.refl w).alloc _
  have B1 : Hid (Blk (w.alloc (.cells #[.int .u8 v.ctl, .int .u8 v.scy, .int .u8 v.scx, .int .u8 v.wy, .int .u8 v.wx, .int .u8 v.bgp, .int .u8 v.o0, .int .u8 v.o1, .slice v.va vn v.vc, .slice v.oa on v.oc] 24)) w.heap.size 24 [.int .u8 v.ctl, .int .u8 v.scy, .int .u8 v.scx, .int .u8 v.wy, .int .u8 v.wx, .int .u8 v.bgp, .int .u8 v.o0, .int .u8 v.o1, .slice v.va vn v.vc, .slice v.oa on v.oc]) := blk_new w _ _
  go_enter Try.func58, Try.ntmps58
  go_wp2_with fail
  obtain ⟨d0, d1, d2, d3, d4, d5, d6, d7, d8, d9⟩ := ten18 B1.out
  refine wp_region_held_drew (S := (fun w' => w'.cell? ⟨w.heap.size, 0, none⟩ = some (.int .u8 v.ctl) ∧ w'.cell? ⟨w.heap.size, 1, none⟩ = some (.int .u8 v.scy) ∧ w'.cell? ⟨w.heap.size, 2, none⟩ = some (.int .u8 v.scx) ∧ w'.cell? ⟨w.heap.size, 3, none⟩ = some (.int .u8 v.wy) ∧ w'.cell? ⟨w.heap.size, 4, none⟩ = some (.int .u8 v.wx) ∧ w'.cell? ⟨w.heap.size, 5, none⟩ = some (.int .u8 v.bgp) ∧ w'.cell? ⟨w.heap.size, 6, none⟩ = some (.int .u8 v.o0) ∧ w'.cell? ⟨w.heap.size, 7, none⟩ = some (.int .u8 v.o1) ∧ w'.cell? ⟨w.heap.size, 8, none⟩ = some (.slice v.va vn v.vc) ∧ w'.cell? ⟨w.heap.size, 9, none⟩ = some (.slice v.oa on v.oc))) (by kernel_rfl) (by go_keep) (fun hHeld => ?_)
  clear d0 d1 d2 d3 d4 d5 d6 d7 d8 d9
  have K2 := hid K1.out.drew
  have B2 := hid (blk_drew B1.out)
  clear K1 B1
  obtain ⟨d0, d1, d2, d3, d4, d5, d6, d7, d8, d9⟩ := ten18 B2.out
  refine wpAnyH_take (i := 0) (v := ?_) rfl (by kernel_rfl) (by kernel_rfl) (by kernel_rfl) (fun _ _ _ h => h) (Or.inl ⟨by rfl, ?_⟩) (by assumption) ?_
  rotate_left
  · intro w hSw
    (try dsimp only at hSw)
    obtain ⟨s0, s1, s2, s3, s4, s5, s6, s7, s8, s9⟩ := hSw
    go_simp
    try with_reducible rfl
  simp only [Act.put, List.getElem_toArray, List.getElem_cons_succ, List.getElem_cons_zero, List.setIfInBounds_toArray, List.set_cons_zero, List.set_cons_succ]
  refine wpAnyH_take (i := 1) (v := ?_) rfl (by kernel_rfl) (by kernel_rfl) (by kernel_rfl) (fun _ _ _ h => h) (Or.inl ⟨by rfl, ?_⟩) (by assumption) ?_
  rotate_left
  · intro w hSw
    (try dsimp only at hSw)
    obtain ⟨s0, s1, s2, s3, s4, s5, s6, s7, s8, s9⟩ := hSw
    go_simp
    try with_reducible rfl
  simp only [Act.put, List.getElem_toArray, List.getElem_cons_succ, List.getElem_cons_zero, List.setIfInBounds_toArray, List.set_cons_zero, List.set_cons_succ]
  refine wpAnyH_take (i := 2) (v := ?_) rfl (by kernel_rfl) (by kernel_rfl) (by kernel_rfl) (fun _ _ _ h => h) (Or.inl ⟨by rfl, ?_⟩) (by assumption) ?_
  rotate_left
  · intro w hSw
    (try dsimp only at hSw)
    obtain ⟨s0, s1, s2, s3, s4, s5, s6, s7, s8, s9⟩ := hSw
    go_simp
    try with_reducible rfl
  simp only [Act.put, List.getElem_toArray, List.getElem_cons_succ, List.getElem_cons_zero, List.setIfInBounds_toArray, List.set_cons_zero, List.set_cons_succ]
  refine wpAnyH_take (i := 3) (v := ?_) rfl (by kernel_rfl) (by kernel_rfl) (by kernel_rfl) (fun _ _ _ h => h) (Or.inl ⟨by rfl, ?_⟩) (by assumption) ?_
  rotate_left
  · intro w hSw
    (try dsimp only at hSw)
    obtain ⟨s0, s1, s2, s3, s4, s5, s6, s7, s8, s9⟩ := hSw
    go_simp
    try with_reducible rfl
  simp only [Act.put, List.getElem_toArray, List.getElem_cons_succ, List.getElem_cons_zero, List.setIfInBounds_toArray, List.set_cons_zero, List.set_cons_succ]
  refine wpAnyH_take (i := 4) (v := ?_) rfl (by kernel_rfl) (by kernel_rfl) (by kernel_rfl) (fun _ _ _ h => h) (Or.inl ⟨by rfl, ?_⟩) (by assumption) ?_
  rotate_left
  · intro w hSw
    (try dsimp only at hSw)
    obtain ⟨s0, s1, s2, s3, s4, s5, s6, s7, s8, s9⟩ := hSw
    go_simp
    try with_reducible rfl
  simp only [Act.put, List.getElem_toArray, List.getElem_cons_succ, List.getElem_cons_zero, List.setIfInBounds_toArray, List.set_cons_zero, List.set_cons_succ]
  refine wpAnyH_take (i := 5) (v := ?_) rfl (by kernel_rfl) (by kernel_rfl) (by kernel_rfl) (fun _ _ _ h => h) (Or.inl ⟨by rfl, ?_⟩) (by assumption) ?_
  rotate_left
  · intro w hSw
    (try dsimp only at hSw)
    obtain ⟨s0, s1, s2, s3, s4, s5, s6, s7, s8, s9⟩ := hSw
    go_simp
    try with_reducible rfl
  simp only [Act.put, List.getElem_toArray, List.getElem_cons_succ, List.getElem_cons_zero, List.setIfInBounds_toArray, List.set_cons_zero, List.set_cons_succ]
  refine wpAnyH_take (i := 6) (v := ?_) rfl (by kernel_rfl) (by kernel_rfl) (by kernel_rfl) (fun _ _ _ h => h) (Or.inl ⟨by rfl, ?_⟩) (by assumption) ?_
  rotate_left
  · intro w hSw
    (try dsimp only at hSw)
    obtain ⟨s0, s1, s2, s3, s4, s5, s6, s7, s8, s9⟩ := hSw
    go_simp
    try with_reducible rfl
  simp only [Act.put, List.getElem_toArray, List.getElem_cons_succ, List.getElem_cons_zero, List.setIfInBounds_toArray, List.set_cons_zero, List.set_cons_succ]
  refine wpAnyH_ready (rs := [7]) (by kernel_rfl) (by simp) ?_
  refine AllReadyH.cons rfl (fun K hK => ?_) AllReadyH.nil
  go_simp
  refine (CE.out _).mono ?_
  rintro e ux ⟨rfl, rfl⟩
  refine hK.out _ _ (by go_keep) (fun hHeld => ?_)
  clear hK K
  try simp only [Act.put, List.getElem_toArray, List.getElem_cons_succ, List.getElem_cons_zero, List.setIfInBounds_toArray, List.set_cons_zero, List.set_cons_succ]
  refine wpAnyH_ready (rs := [8]) (by kernel_rfl) (by simp) ?_
  refine AllReadyH.cons rfl (fun K hK => ?_) AllReadyH.nil
  go_simp
  refine (A1.out _ (row_kept K2.out R0.out)).mono ?_
  rintro e q1 ⟨rfl, k1⟩
  have K3 := hid (K2.out.trans k1)
  have B3 := hid (blk_kept k1 B2.out)
  clear k1 K2 B2 d0 d1 d2 d3 d4 d5 d6 d7 d8 d9
  obtain ⟨d0, d1, d2, d3, d4, d5, d6, d7, d8, d9⟩ := ten18 B3.out
  refine hK.out _ _ (by go_keep) (fun hHeld => ?_)
  clear hK K
  try simp only [Act.put, List.getElem_toArray, List.getElem_cons_succ, List.getElem_cons_zero, List.setIfInBounds_toArray, List.set_cons_zero, List.set_cons_succ]
  refine wpAnyH_take (i := 9) (v := ?_) rfl (by kernel_rfl) (by kernel_rfl) (by kernel_rfl) (fun _ _ _ h => h) (Or.inl ⟨by rfl, ?_⟩) (by assumption) ?_
  rotate_left
  · intro w hSw
    (try dsimp only at hSw)
    obtain ⟨s0, s1, s2, s3, s4, s5, s6, s7, s8, s9⟩ := hSw
    go_simp
    try with_reducible rfl
  simp only [Act.put, List.getElem_toArray, List.getElem_cons_succ, List.getElem_cons_zero, List.setIfInBounds_toArray, List.set_cons_zero, List.set_cons_succ]
  refine wpAnyH_done (by kernel_rfl) ?_ _
  clear hHeld
  go_wp2_with fail
  refine (C4.out _ K3.out).mono ?_
  rintro e q2 ⟨rfl, k1⟩
  have K4 := hid (K3.out.trans k1)
  have B4 := hid (blk_kept k1 B3.out)
  clear k1 K3 B3 d0 d1 d2 d3 d4 d5 d6 d7 d8 d9
  obtain ⟨d0, d1, d2, d3, d4, d5, d6, d7, d8, d9⟩ := ten18 B4.out
  go_wp2_with fail
  refine (PL.out _).mono ?_
  rintro e ux ⟨rfl, rfl⟩
  go_wp2_with fail
  clear d0 d1 d2 d3 d4 d5 d6 d7 d8 d9
  obtain ⟨d0, d1, d2, d3, d4, d5, d6, d7, d8, d9⟩ := ten18 B4.out
  refine wp_region_held_drew (S := (fun w' => w'.cell? ⟨w.heap.size, 0, none⟩ = some (.int .u8 v.ctl) ∧ w'.cell? ⟨w.heap.size, 1, none⟩ = some (.int .u8 v.scy) ∧ w'.cell? ⟨w.heap.size, 2, none⟩ = some (.int .u8 v.scx) ∧ w'.cell? ⟨w.heap.size, 3, none⟩ = some (.int .u8 v.wy) ∧ w'.cell? ⟨w.heap.size, 4, none⟩ = some (.int .u8 v.wx) ∧ w'.cell? ⟨w.heap.size, 5, none⟩ = some (.int .u8 v.bgp) ∧ w'.cell? ⟨w.heap.size, 6, none⟩ = some (.int .u8 v.o0) ∧ w'.cell? ⟨w.heap.size, 7, none⟩ = some (.int .u8 v.o1) ∧ w'.cell? ⟨w.heap.size, 8, none⟩ = some (.slice v.va vn v.vc) ∧ w'.cell? ⟨w.heap.size, 9, none⟩ = some (.slice v.oa on v.oc))) (by kernel_rfl) (by go_keep) (fun hHeld => ?_)
  clear d0 d1 d2 d3 d4 d5 d6 d7 d8 d9
  have K5 := hid K4.out.drew
  have B5 := hid (blk_drew B4.out)
  clear K4 B4
  obtain ⟨d0, d1, d2, d3, d4, d5, d6, d7, d8, d9⟩ := ten18 B5.out
  refine wpAnyH_take (i := 0) (v := ?_) rfl (by kernel_rfl) (by kernel_rfl) (by kernel_rfl) (fun _ _ _ h => h) (Or.inl ⟨by rfl, ?_⟩) (by assumption) ?_
  rotate_left
  · intro w hSw
    (try dsimp only at hSw)
    obtain ⟨s0, s1, s2, s3, s4, s5, s6, s7, s8, s9⟩ := hSw
    go_simp
    try with_reducible rfl
  simp only [Act.put, List.getElem_toArray, List.getElem_cons_succ, List.getElem_cons_zero, List.setIfInBounds_toArray, List.set_cons_zero, List.set_cons_succ]
  refine wpAnyH_take (i := 1) (v := ?_) rfl (by kernel_rfl) (by kernel_rfl) (by kernel_rfl) (fun _ _ _ h => h) (Or.inl ⟨by rfl, ?_⟩) (by assumption) ?_
  rotate_left
  · intro w hSw
    (try dsimp only at hSw)
    obtain ⟨s0, s1, s2, s3, s4, s5, s6, s7, s8, s9⟩ := hSw
    go_simp
    try with_reducible rfl
  simp only [Act.put, List.getElem_toArray, List.getElem_cons_succ, List.getElem_cons_zero, List.setIfInBounds_toArray, List.set_cons_zero, List.set_cons_succ]
  refine wpAnyH_take (i := 2) (v := ?_) rfl (by kernel_rfl) (by kernel_rfl) (by kernel_rfl) (fun _ _ _ h => h) (Or.inl ⟨by rfl, ?_⟩) (by assumption) ?_
  rotate_left
  · intro w hSw
    (try dsimp only at hSw)
    obtain ⟨s0, s1, s2, s3, s4, s5, s6, s7, s8, s9⟩ := hSw
    go_simp
    try with_reducible rfl
  simp only [Act.put, List.getElem_toArray, List.getElem_cons_succ, List.getElem_cons_zero, List.setIfInBounds_toArray, List.set_cons_zero, List.set_cons_succ]
  refine wpAnyH_take (i := 4) (v := ?_) rfl (by kernel_rfl) (by kernel_rfl) (by kernel_rfl) (fun _ _ _ h => h) (Or.inl ⟨by rfl, ?_⟩) (by assumption) ?_
  rotate_left
  · intro w hSw
    (try dsimp only at hSw)
    obtain ⟨s0, s1, s2, s3, s4, s5, s6, s7, s8, s9⟩ := hSw
    go_simp
    try with_reducible rfl
  simp only [Act.put, List.getElem_toArray, List.getElem_cons_succ, List.getElem_cons_zero, List.setIfInBounds_toArray, List.set_cons_zero, List.set_cons_succ]
  refine wpAnyH_take (i := 5) (v := ?_) rfl (by kernel_rfl) (by kernel_rfl) (by kernel_rfl) (fun _ _ _ h => h) (Or.inl ⟨by rfl, ?_⟩) (by assumption) ?_
  rotate_left
  · intro w hSw
    (try dsimp only at hSw)
    obtain ⟨s0, s1, s2, s3, s4, s5, s6, s7, s8, s9⟩ := hSw
    go_simp
    try with_reducible rfl
  simp only [Act.put, List.getElem_toArray, List.getElem_cons_succ, List.getElem_cons_zero, List.setIfInBounds_toArray, List.set_cons_zero, List.set_cons_succ]
  refine wpAnyH_take (i := 6) (v := ?_) rfl (by kernel_rfl) (by kernel_rfl) (by kernel_rfl) (fun _ _ _ h => h) (Or.inl ⟨by rfl, ?_⟩) (by assumption) ?_
  rotate_left
  · intro w hSw
    (try dsimp only at hSw)
    obtain ⟨s0, s1, s2, s3, s4, s5, s6, s7, s8, s9⟩ := hSw
    go_simp
    try with_reducible rfl
  simp only [Act.put, List.getElem_toArray, List.getElem_cons_succ, List.getElem_cons_zero, List.setIfInBounds_toArray, List.set_cons_zero, List.set_cons_succ]
  refine wpAnyH_take (i := 7) (v := ?_) rfl (by kernel_rfl) (by kernel_rfl) (by kernel_rfl) (fun _ _ _ h => h) (Or.inl ⟨by rfl, ?_⟩) (by assumption) ?_
  rotate_left
  · intro w hSw
    (try dsimp only at hSw)
    obtain ⟨s0, s1, s2, s3, s4, s5, s6, s7, s8, s9⟩ := hSw
    go_simp
    try with_reducible rfl
  simp only [Act.put, List.getElem_toArray, List.getElem_cons_succ, List.getElem_cons_zero, List.setIfInBounds_toArray, List.set_cons_zero, List.set_cons_succ]
  refine wpAnyH_take (i := 9) (v := ?_) rfl (by kernel_rfl) (by kernel_rfl) (by kernel_rfl) (fun _ _ _ h => h) (Or.inl ⟨by rfl, ?_⟩) (by assumption) ?_
  rotate_left
  · intro w hSw
    (try dsimp only at hSw)
    obtain ⟨s0, s1, s2, s3, s4, s5, s6, s7, s8, s9⟩ := hSw
    go_simp
    try with_reducible rfl
  simp only [Act.put, List.getElem_toArray, List.getElem_cons_succ, List.getElem_cons_zero, List.setIfInBounds_toArray, List.set_cons_zero, List.set_cons_succ]
  refine wpAnyH_take (i := 10) (v := ?_) rfl (by kernel_rfl) (by kernel_rfl) (by kernel_rfl) (fun _ _ _ h => h) (Or.inl ⟨by rfl, ?_⟩) (by assumption) ?_
  rotate_left
  · intro w hSw
    (try dsimp only at hSw)
    obtain ⟨s0, s1, s2, s3, s4, s5, s6, s7, s8, s9⟩ := hSw
    go_simp
    try with_reducible rfl
  simp only [Act.put, List.getElem_toArray, List.getElem_cons_succ, List.getElem_cons_zero, List.setIfInBounds_toArray, List.set_cons_zero, List.set_cons_succ]
  refine wpAnyH_ready (rs := [3]) (by kernel_rfl) (by simp) ?_
  refine AllReadyH.cons rfl (fun K hK => ?_) AllReadyH.nil
  go_simp
  refine (A2.out _ (row_kept K5.out R0.out)).mono ?_
  rintro e q3 ⟨rfl, k1⟩
  have K6 := hid (K5.out.trans k1)
  have B6 := hid (blk_kept k1 B5.out)
  clear k1 K5 B5 d0 d1 d2 d3 d4 d5 d6 d7 d8 d9
  obtain ⟨d0, d1, d2, d3, d4, d5, d6, d7, d8, d9⟩ := ten18 B6.out
  refine hK.out _ _ (by go_keep) (fun hHeld => ?_)
  clear hK K
  try simp only [Act.put, List.getElem_toArray, List.getElem_cons_succ, List.getElem_cons_zero, List.setIfInBounds_toArray, List.set_cons_zero, List.set_cons_succ]
  refine wpAnyH_ready (rs := [8]) (by kernel_rfl) (by simp) ?_
  refine AllReadyH.cons rfl (fun K hK => ?_) AllReadyH.nil
  go_simp
  refine (A3.out _ (row_kept K6.out R0.out)).mono ?_
  rintro e q4 ⟨rfl, k1⟩
  have K7 := hid (K6.out.trans k1)
  have B7 := hid (blk_kept k1 B6.out)
  clear k1 K6 B6 d0 d1 d2 d3 d4 d5 d6 d7 d8 d9
  obtain ⟨d0, d1, d2, d3, d4, d5, d6, d7, d8, d9⟩ := ten18 B7.out
  refine hK.out _ _ (by go_keep) (fun hHeld => ?_)
  clear hK K
  try simp only [Act.put, List.getElem_toArray, List.getElem_cons_succ, List.getElem_cons_zero, List.setIfInBounds_toArray, List.set_cons_zero, List.set_cons_succ]
  refine wpAnyH_ready (rs := [11]) (by kernel_rfl) (by simp) ?_
  refine AllReadyH.cons rfl (fun K hK => ?_) AllReadyH.nil
  go_simp
  refine (PX.out _).mono ?_
  rintro e q5 ⟨rfl, k1⟩
  have K8 := hid (K7.out.trans k1)
  have B8 := hid (blk_kept k1 B7.out)
  clear k1 K7 B7 d0 d1 d2 d3 d4 d5 d6 d7 d8 d9
  obtain ⟨d0, d1, d2, d3, d4, d5, d6, d7, d8, d9⟩ := ten18 B8.out
  refine hK.out _ _ (by go_keep) (fun hHeld => ?_)
  clear hK K
  try simp only [Act.put, List.getElem_toArray, List.getElem_cons_succ, List.getElem_cons_zero, List.setIfInBounds_toArray, List.set_cons_zero, List.set_cons_succ]
  refine wpAnyH_take (i := 12) (v := ?_) rfl (by kernel_rfl) (by kernel_rfl) (by kernel_rfl) (fun _ _ _ h => h) (Or.inl ⟨by rfl, ?_⟩) (by assumption) ?_
  rotate_left
  · intro w hSw
    (try dsimp only at hSw)
    obtain ⟨s0, s1, s2, s3, s4, s5, s6, s7, s8, s9⟩ := hSw
    go_simp
    try with_reducible rfl
  simp only [Act.put, List.getElem_toArray, List.getElem_cons_succ, List.getElem_cons_zero, List.setIfInBounds_toArray, List.set_cons_zero, List.set_cons_succ]
  refine wpAnyH_done (by kernel_rfl) ?_ _
  clear hHeld
  go_wp2
  go_ret
  exact ⟨rfl, K8.out⟩
set_option maxRecDepth 100000 in
set_option maxHeartbeats 4000000 in
theorem rgro18 (v : Vd) (x : Nat) (y win : Int) (w : World) (hv : VdIn w v) (hx : x < 160) (y0 : 0 ≤ y) (y1 : y ≤ 255) (w0 : 0 ≤ win) (w1 : win ≤ 255) : Calls Try.prog 43 #[vdV v, .int .i64 (x : Int), .int .u8 y, .int .u8 win] w fun e w' => e = .returned (.int .u8 (groP v (x : Int) y win)) ∧ Kept w w' := by
  have C0 := hid (fun u k => rctl18 v 0 u (vdIn_kept k hv))
  have C3 := hid (fun u k => rctl18 v 3 u (vdIn_kept k hv))
  have C6 := hid (fun u k => rctl18 v 6 u (vdIn_kept k hv))
  have WI := hid (fun u k => rwin18 v y u (vdIn_kept k hv) y0 y1)
  have t0 := hv.t0
  have t1 := hv.t1
  have x0 := hv.x0
  have x1 := hv.x1
  have s0 := hv.y0
  have s1 := hv.y1
  unfold groP
  generalize bitOf v.ctl 3 = b3 at *
  generalize bitOf v.ctl 6 = b6 at *
  have CG := hid (fun u k => rcell18 v b3 (((x : Int) + v.scx) % 256) ((y + v.scy) % 256) u (vdIn_kept k hv) (by omega) (by omega) (by omega) (by omega))
  have CWX := hid (fun (hc : v.wx ≤ (x : Int) + 7) u k => rcell18 v b6 ((x : Int) + 7 - v.wx) win u (vdIn_kept k hv) (by omega) (by omega) w0 w1)
  generalize celP v b3 (((x : Int) + v.scx) % 256) ((y + v.scy) % 256) = cg at *
  generalize celP v b6 ((x : Int) + 7 - v.wx) win = cw at *
  have e1 : IntKind.i64.wrap ((x : Int) + 7) = (x : Int) + 7 := by rw [IntKind.wrap_i64]; omega
  have e2 : IntKind.i64.wrap v.wx = v.wx := by rw [IntKind.wrap_i64]; omega
  have e3 : IntKind.i64.wrap win = win := by rw [IntKind.wrap_i64]; omega
  have e4 : IntKind.i64.wrap v.scx = v.scx := by rw [IntKind.wrap_i64]; omega
  have e5 : IntKind.i64.wrap v.scy = v.scy := by rw [IntKind.wrap_i64]; omega
  have e6 : IntKind.i64.wrap y = y := by rw [IntKind.wrap_i64]; omega
  have e7 : IntKind.i64.wrap ((x : Int) + v.scx) = (x : Int) + v.scx := by rw [IntKind.wrap_i64]; omega
  have e8 : IntKind.i64.wrap (y + v.scy) = y + v.scy := by rw [IntKind.wrap_i64]; omega
  have m1 : Int.tmod ((x : Int) + v.scx) 256 = ((x : Int) + v.scx) % 256 := Int.tmod_eq_emod_of_nonneg (by omega)
  have m2 : Int.tmod (y + v.scy) 256 = (y + v.scy) % 256 := Int.tmod_eq_emod_of_nonneg (by omega)
  have e9 : IntKind.i64.wrap (((x : Int) + v.scx) % 256) = ((x : Int) + v.scx) % 256 := by rw [IntKind.wrap_i64]; omega
  have e10 : IntKind.i64.wrap ((y + v.scy) % 256) = (y + v.scy) % 256 := by rw [IntKind.wrap_i64]; omega
  have e11 : IntKind.i64.wrap ((x : Int) + 7 - v.wx) = (x : Int) + 7 - v.wx := by rw [IntKind.wrap_i64]; omega
  clear hv
  obtain ⟨vn, hvn⟩ : ∃ n, v.vz.length = n := ⟨_, rfl⟩
  obtain ⟨on, hon⟩ : ∃ n, v.oz.length = n := ⟨_, rfl⟩
  have VV : vdV v = .agg #[.int .u8 v.ctl, .int .u8 v.scy, .int .u8 v.scx, .int .u8 v.wy, .int .u8 v.wx, .int .u8 v.bgp, .int .u8 v.o0, .int .u8 v.o1, .slice v.va vn v.vc, .slice v.oa on v.oc] := by unfold vdV; rw [hvn, hon]
  rw [VV] at C0 C3 C6 WI CG CWX ⊢
  clear hvn hon VV
  have K1 : Hid (Kept w (w.alloc (.cells #[.int .u8 v.ctl, .int .u8 v.scy, .int .u8 v.scx, .int .u8 v.wy, .int .u8 v.wx, .int .u8 v.bgp, .int .u8 v.o0, .int .u8 v.o1, .slice v.va vn v.vc, .slice v.oa on v.oc] 24))) := (Kept.refl w).alloc _
  have B1 : Hid (Blk (w.alloc (.cells #[.int .u8 v.ctl, .int .u8 v.scy, .int .u8 v.scx, .int .u8 v.wy, .int .u8 v.wx, .int .u8 v.bgp, .int .u8 v.o0, .int .u8 v.o1, .slice v.va vn v.vc, .slice v.oa on v.oc] 24)) w.heap.size 24 [.int .u8 v.ctl, .int .u8 v.scy, .int .u8 v.scx, .int .u8 v.wy, .int .u8 v.wx, .int .u8 v.bgp, .int .u8 v.o0, .int .u8 v.o1, .slice v.va vn v.vc, .slice v.oa on v.oc]) := blk_new w _ _
  cases q0 : bitOf v.ctl 0
  · rw [q0] at C0
    clear q0
    simp only [Bool.false_eq_true, if_false]
    go_enter Try.func43, Try.ntmps43
    obtain ⟨d0, d1, d2, d3, d4, d5, d6, d7, d8, d9⟩ := ten18 B1.out
    go_wp2_with fail
    refine (C0.out _ K1.out).mono ?_
    rintro e u1 ⟨rfl, k1⟩
    have K2 := hid (K1.out.trans k1)
    have B2 := hid (blk_kept k1 B1.out)
    clear k1 K1 B1 d0 d1 d2 d3 d4 d5 d6 d7 d8 d9
    obtain ⟨d0, d1, d2, d3, d4, d5, d6, d7, d8, d9⟩ := ten18 B2.out
    go_wp2
    go_ret
    exact ⟨rfl, K2.out⟩
  · rw [q0] at C0
    clear q0
    simp only [if_true]
    cases qw : winP v y
    · rw [qw] at WI
      clear qw
      simp only [Bool.false_and, Bool.false_eq_true, if_false]
      go_enter Try.func43, Try.ntmps43
      obtain ⟨d0, d1, d2, d3, d4, d5, d6, d7, d8, d9⟩ := ten18 B1.out
      go_wp2_with fail
      refine (C0.out _ K1.out).mono ?_
      rintro e u1 ⟨rfl, k1⟩
      have K2 := hid (K1.out.trans k1)
      have B2 := hid (blk_kept k1 B1.out)
      clear k1 K1 B1 d0 d1 d2 d3 d4 d5 d6 d7 d8 d9
      obtain ⟨d0, d1, d2, d3, d4, d5, d6, d7, d8, d9⟩ := ten18 B2.out
      go_wp2_with fail
      refine (WI.out _ K2.out).mono ?_
      rintro e u2 ⟨rfl, k1⟩
      have K3 := hid (K2.out.trans k1)
      have B3 := hid (blk_kept k1 B2.out)
      clear k1 K2 B2 d0 d1 d2 d3 d4 d5 d6 d7 d8 d9
      obtain ⟨d0, d1, d2, d3, d4, d5, d6, d7, d8, d9⟩ := ten18 B3.out
      go_wp2_with fail
      clear d0 d1 d2 d3 d4 d5 d6 d7 d8 d9
      obtain ⟨d0, d1, d2, d3, d4, d5, d6, d7, d8, d9⟩ := ten18 B3.out
      refine wp_region_held_drew (S := (fun w' => w'.cell? ⟨w.heap.size, 0, none⟩ = some (.int .u8 v.ctl) ∧ w'.cell? ⟨w.heap.size, 1, none⟩ = some (.int .u8 v.scy) ∧ w'.cell? ⟨w.heap.size, 2, none⟩ = some (.int .u8 v.scx) ∧ w'.cell? ⟨w.heap.size, 3, none⟩ = some (.int .u8 v.wy) ∧ w'.cell? ⟨w.heap.size, 4, none⟩ = some (.int .u8 v.wx) ∧ w'.cell? ⟨w.heap.size, 5, none⟩ = some (.int .u8 v.bgp) ∧ w'.cell? ⟨w.heap.size, 6, none⟩ = some (.int .u8 v.o0) ∧ w'.cell? ⟨w.heap.size, 7, none⟩ = some (.int .u8 v.o1) ∧ w'.cell? ⟨w.heap.size, 8, none⟩ = some (.slice v.va vn v.vc) ∧ w'.cell? ⟨w.heap.size, 9, none⟩ = some (.slice v.oa on v.oc))) (by kernel_rfl) (by go_keep) (fun hHeld => ?_)
      clear d0 d1 d2 d3 d4 d5 d6 d7 d8 d9
      have K4 := hid K3.out.drew
      have B4 := hid (blk_drew B3.out)
      clear K3 B3
      obtain ⟨d0, d1, d2, d3, d4, d5, d6, d7, d8, d9⟩ := ten18 B4.out
      refine wpAnyH_take (i := 0) (v := ?_) rfl (by kernel_rfl) (by kernel_rfl) (by kernel_rfl) (fun _ _ _ h => h) (Or.inl ⟨by rfl, ?_⟩) (by assumption) ?_
      rotate_left
      · intro w hSw
        (try dsimp only at hSw)
        obtain ⟨s0, s1, s2, s3, s4, s5, s6, s7, s8, s9⟩ := hSw
        go_simp
        try with_reducible rfl
      simp only [Act.put, List.getElem_toArray, List.getElem_cons_succ, List.getElem_cons_zero, List.setIfInBounds_toArray, List.set_cons_zero, List.set_cons_succ]
      refine wpAnyH_take (i := 1) (v := ?_) rfl (by kernel_rfl) (by kernel_rfl) (by kernel_rfl) (fun _ _ _ h => h) (Or.inl ⟨by rfl, ?_⟩) (by assumption) ?_
      rotate_left
      · intro w hSw
        (try dsimp only at hSw)
        obtain ⟨s0, s1, s2, s3, s4, s5, s6, s7, s8, s9⟩ := hSw
        go_simp
        try with_reducible rfl
      simp only [Act.put, List.getElem_toArray, List.getElem_cons_succ, List.getElem_cons_zero, List.setIfInBounds_toArray, List.set_cons_zero, List.set_cons_succ]
      refine wpAnyH_take (i := 3) (v := ?_) rfl (by kernel_rfl) (by kernel_rfl) (by kernel_rfl) (fun _ _ _ h => h) (Or.inl ⟨by rfl, ?_⟩) (by assumption) ?_
      rotate_left
      · intro w hSw
        (try dsimp only at hSw)
        obtain ⟨s0, s1, s2, s3, s4, s5, s6, s7, s8, s9⟩ := hSw
        go_simp
        try with_reducible rfl
      simp only [Act.put, List.getElem_toArray, List.getElem_cons_succ, List.getElem_cons_zero, List.setIfInBounds_toArray, List.set_cons_zero, List.set_cons_succ]
      refine wpAnyH_take (i := 4) (v := ?_) rfl (by kernel_rfl) (by kernel_rfl) (by kernel_rfl) (fun _ _ _ h => h) (Or.inl ⟨by rfl, ?_⟩) (by assumption) ?_
      rotate_left
      · intro w hSw
        (try dsimp only at hSw)
        obtain ⟨s0, s1, s2, s3, s4, s5, s6, s7, s8, s9⟩ := hSw
        go_simp
        try with_reducible rfl
      simp only [Act.put, List.getElem_toArray, List.getElem_cons_succ, List.getElem_cons_zero, List.setIfInBounds_toArray, List.set_cons_zero, List.set_cons_succ]
      refine wpAnyH_take (i := 5) (v := ?_) rfl (by kernel_rfl) (by kernel_rfl) (by kernel_rfl) (fun _ _ _ h => h) (Or.inl ⟨by rfl, ?_⟩) (by assumption) ?_
      rotate_left
      · intro w hSw
        (try dsimp only at hSw)
        obtain ⟨s0, s1, s2, s3, s4, s5, s6, s7, s8, s9⟩ := hSw
        go_simp
        try with_reducible rfl
      simp only [Act.put, List.getElem_toArray, List.getElem_cons_succ, List.getElem_cons_zero, List.setIfInBounds_toArray, List.set_cons_zero, List.set_cons_succ]
      refine wpAnyH_take (i := 6) (v := ?_) rfl (by kernel_rfl) (by kernel_rfl) (by kernel_rfl) (fun _ _ _ h => h) (Or.inl ⟨by rfl, ?_⟩) (by assumption) ?_
      rotate_left
      · intro w hSw
        (try dsimp only at hSw)
        obtain ⟨s0, s1, s2, s3, s4, s5, s6, s7, s8, s9⟩ := hSw
        go_simp
        try with_reducible rfl
      simp only [Act.put, List.getElem_toArray, List.getElem_cons_succ, List.getElem_cons_zero, List.setIfInBounds_toArray, List.set_cons_zero, List.set_cons_succ]
      refine wpAnyH_take (i := 7) (v := ?_) rfl (by kernel_rfl) (by kernel_rfl) (by kernel_rfl) (fun _ _ _ h => h) (Or.inl ⟨by rfl, ?_⟩) (by assumption) ?_
      rotate_left
      · intro w hSw
        (try dsimp only at hSw)
        obtain ⟨s0, s1, s2, s3, s4, s5, s6, s7, s8, s9⟩ := hSw
        go_simp
        try with_reducible rfl
      simp only [Act.put, List.getElem_toArray, List.getElem_cons_succ, List.getElem_cons_zero, List.setIfInBounds_toArray, List.set_cons_zero, List.set_cons_succ]
      refine wpAnyH_take (i := 8) (v := ?_) rfl (by kernel_rfl) (by kernel_rfl) (by kernel_rfl) (fun _ _ _ h => h) (Or.inl ⟨by rfl, ?_⟩) (by assumption) ?_
      rotate_left
      · intro w hSw
        (try dsimp only at hSw)
        obtain ⟨s0, s1, s2, s3, s4, s5, s6, s7, s8, s9⟩ := hSw
        go_simp
        try with_reducible rfl
      simp only [Act.put, List.getElem_toArray, List.getElem_cons_succ, List.getElem_cons_zero, List.setIfInBounds_toArray, List.set_cons_zero, List.set_cons_succ]
      refine wpAnyH_take (i := 9) (v := ?_) rfl (by kernel_rfl) (by kernel_rfl) (by kernel_rfl) (fun _ _ _ h => h) (Or.inl ⟨by rfl, ?_⟩) (by assumption) ?_
      rotate_left
      · intro w hSw
        (try dsimp only at hSw)
        obtain ⟨s0, s1, s2, s3, s4, s5, s6, s7, s8, s9⟩ := hSw
        go_simp
        try with_reducible rfl
      simp only [Act.put, List.getElem_toArray, List.getElem_cons_succ, List.getElem_cons_zero, List.setIfInBounds_toArray, List.set_cons_zero, List.set_cons_succ]
      refine wpAnyH_take (i := 10) (v := ?_) rfl (by kernel_rfl) (by kernel_rfl) (by kernel_rfl) (fun _ _ _ h => h) (Or.inl ⟨by rfl, ?_⟩) (by assumption) ?_
      rotate_left
      · intro w hSw
        (try dsimp only at hSw)
        obtain ⟨s0, s1, s2, s3, s4, s5, s6, s7, s8, s9⟩ := hSw
        go_simp
        try with_reducible rfl
      simp only [Act.put, List.getElem_toArray, List.getElem_cons_succ, List.getElem_cons_zero, List.setIfInBounds_toArray, List.set_cons_zero, List.set_cons_succ]
      refine wpAnyH_take (i := 11) (v := ?_) rfl (by kernel_rfl) (by kernel_rfl) (by kernel_rfl) (fun _ _ _ h => h) (Or.inl ⟨by rfl, ?_⟩) (by assumption) ?_
      rotate_left
      · intro w hSw
        (try dsimp only at hSw)
        obtain ⟨s0, s1, s2, s3, s4, s5, s6, s7, s8, s9⟩ := hSw
        go_simp
        try with_reducible rfl
      simp only [Act.put, List.getElem_toArray, List.getElem_cons_succ, List.getElem_cons_zero, List.setIfInBounds_toArray, List.set_cons_zero, List.set_cons_succ]
      refine wpAnyH_take (i := 12) (v := ?_) rfl (by kernel_rfl) (by kernel_rfl) (by kernel_rfl) (fun _ _ _ h => h) (Or.inl ⟨by rfl, ?_⟩) (by assumption) ?_
      rotate_left
      · intro w hSw
        (try dsimp only at hSw)
        obtain ⟨s0, s1, s2, s3, s4, s5, s6, s7, s8, s9⟩ := hSw
        go_simp
        try with_reducible rfl
      simp only [Act.put, List.getElem_toArray, List.getElem_cons_succ, List.getElem_cons_zero, List.setIfInBounds_toArray, List.set_cons_zero, List.set_cons_succ]
      refine wpAnyH_take (i := 13) (v := ?_) rfl (by kernel_rfl) (by kernel_rfl) (by kernel_rfl) (fun _ _ _ h => h) (Or.inl ⟨by rfl, ?_⟩) (by assumption) ?_
      rotate_left
      · intro w hSw
        (try dsimp only at hSw)
        obtain ⟨s0, s1, s2, s3, s4, s5, s6, s7, s8, s9⟩ := hSw
        go_simp
        try with_reducible rfl
      simp only [Act.put, List.getElem_toArray, List.getElem_cons_succ, List.getElem_cons_zero, List.setIfInBounds_toArray, List.set_cons_zero, List.set_cons_succ]
      refine wpAnyH_take (i := 14) (v := ?_) rfl (by kernel_rfl) (by kernel_rfl) (by kernel_rfl) (fun _ _ _ h => h) (Or.inl ⟨by rfl, ?_⟩) (by assumption) ?_
      rotate_left
      · intro w hSw
        (try dsimp only at hSw)
        obtain ⟨s0, s1, s2, s3, s4, s5, s6, s7, s8, s9⟩ := hSw
        go_simp
        try with_reducible rfl
      simp only [Act.put, List.getElem_toArray, List.getElem_cons_succ, List.getElem_cons_zero, List.setIfInBounds_toArray, List.set_cons_zero, List.set_cons_succ]
      refine wpAnyH_take (i := 15) (v := ?_) rfl (by kernel_rfl) (by kernel_rfl) (by kernel_rfl) (fun _ _ _ h => h) (Or.inl ⟨by rfl, ?_⟩) (by assumption) ?_
      rotate_left
      · intro w hSw
        (try dsimp only at hSw)
        obtain ⟨s0, s1, s2, s3, s4, s5, s6, s7, s8, s9⟩ := hSw
        go_simp
        try with_reducible rfl
      simp only [Act.put, List.getElem_toArray, List.getElem_cons_succ, List.getElem_cons_zero, List.setIfInBounds_toArray, List.set_cons_zero, List.set_cons_succ]
      refine wpAnyH_ready (rs := [2]) (by kernel_rfl) (by simp) ?_
      refine AllReadyH.cons rfl (fun K hK => ?_) AllReadyH.nil
      go_simp
      refine (C3.out _ K4.out).mono ?_
      rintro e q5 ⟨rfl, k1⟩
      have K5 := hid (K4.out.trans k1)
      have B5 := hid (blk_kept k1 B4.out)
      clear k1 K4 B4 d0 d1 d2 d3 d4 d5 d6 d7 d8 d9
      obtain ⟨d0, d1, d2, d3, d4, d5, d6, d7, d8, d9⟩ := ten18 B5.out
      refine hK.out _ _ (by go_keep) (fun hHeld => ?_)
      clear hK K
      try simp only [Act.put, List.getElem_toArray, List.getElem_cons_succ, List.getElem_cons_zero, List.setIfInBounds_toArray, List.set_cons_zero, List.set_cons_succ]
      refine wpAnyH_ready (rs := [16]) (by kernel_rfl) (by simp) ?_
      refine AllReadyH.cons rfl (fun K hK => ?_) AllReadyH.nil
      go_simp
      refine (CG.out _ K5.out).mono ?_
      rintro e q6 ⟨rfl, k1⟩
      have K6 := hid (K5.out.trans k1)
      have B6 := hid (blk_kept k1 B5.out)
      clear k1 K5 B5 d0 d1 d2 d3 d4 d5 d6 d7 d8 d9
      obtain ⟨d0, d1, d2, d3, d4, d5, d6, d7, d8, d9⟩ := ten18 B6.out
      refine hK.out _ _ (by go_keep) (fun hHeld => ?_)
      clear hK K
      try simp only [Act.put, List.getElem_toArray, List.getElem_cons_succ, List.getElem_cons_zero, List.setIfInBounds_toArray, List.set_cons_zero, List.set_cons_succ]
      refine wpAnyH_take (i := 17) (v := ?_) rfl (by kernel_rfl) (by kernel_rfl) (by kernel_rfl) (fun _ _ _ h => h) (Or.inl ⟨by rfl, ?_⟩) (by assumption) ?_
      rotate_left
      · intro w hSw
        (try dsimp only at hSw)
        obtain ⟨s0, s1, s2, s3, s4, s5, s6, s7, s8, s9⟩ := hSw
        go_simp
        try with_reducible rfl
      simp only [Act.put, List.getElem_toArray, List.getElem_cons_succ, List.getElem_cons_zero, List.setIfInBounds_toArray, List.set_cons_zero, List.set_cons_succ]
      refine wpAnyH_done (by kernel_rfl) ?_ _
      clear hHeld
      go_wp2
      go_ret
      exact ⟨rfl, K6.out⟩
    · rw [qw] at WI
      clear qw
      simp only [Bool.true_and]
      by_cases hc : v.wx ≤ (x : Int) + 7
      · have CW := hid (CWX.out hc)
        rw [if_pos (decide_eq_true hc)]
        go_enter Try.func43, Try.ntmps43
        obtain ⟨d0, d1, d2, d3, d4, d5, d6, d7, d8, d9⟩ := ten18 B1.out
        go_wp2_with fail
        refine (C0.out _ K1.out).mono ?_
        rintro e u1 ⟨rfl, k1⟩
        have K2 := hid (K1.out.trans k1)
        have B2 := hid (blk_kept k1 B1.out)
        clear k1 K1 B1 d0 d1 d2 d3 d4 d5 d6 d7 d8 d9
        obtain ⟨d0, d1, d2, d3, d4, d5, d6, d7, d8, d9⟩ := ten18 B2.out
        go_wp2_with fail
        refine (WI.out _ K2.out).mono ?_
        rintro e u2 ⟨rfl, k1⟩
        have K3 := hid (K2.out.trans k1)
        have B3 := hid (blk_kept k1 B2.out)
        clear k1 K2 B2 d0 d1 d2 d3 d4 d5 d6 d7 d8 d9
        obtain ⟨d0, d1, d2, d3, d4, d5, d6, d7, d8, d9⟩ := ten18 B3.out
        go_wp2_with fail
        clear d0 d1 d2 d3 d4 d5 d6 d7 d8 d9
        obtain ⟨d0, d1, d2, d3, d4, d5, d6, d7, d8, d9⟩ := ten18 B3.out
        refine wp_region_held_drew (S := (fun w' => w'.cell? ⟨w.heap.size, 0, none⟩ = some (.int .u8 v.ctl) ∧ w'.cell? ⟨w.heap.size, 1, none⟩ = some (.int .u8 v.scy) ∧ w'.cell? ⟨w.heap.size, 2, none⟩ = some (.int .u8 v.scx) ∧ w'.cell? ⟨w.heap.size, 3, none⟩ = some (.int .u8 v.wy) ∧ w'.cell? ⟨w.heap.size, 4, none⟩ = some (.int .u8 v.wx) ∧ w'.cell? ⟨w.heap.size, 5, none⟩ = some (.int .u8 v.bgp) ∧ w'.cell? ⟨w.heap.size, 6, none⟩ = some (.int .u8 v.o0) ∧ w'.cell? ⟨w.heap.size, 7, none⟩ = some (.int .u8 v.o1) ∧ w'.cell? ⟨w.heap.size, 8, none⟩ = some (.slice v.va vn v.vc) ∧ w'.cell? ⟨w.heap.size, 9, none⟩ = some (.slice v.oa on v.oc))) (by kernel_rfl) (by go_keep) (fun hHeld => ?_)
        clear d0 d1 d2 d3 d4 d5 d6 d7 d8 d9
        have K4 := hid K3.out.drew
        have B4 := hid (blk_drew B3.out)
        clear K3 B3
        obtain ⟨d0, d1, d2, d3, d4, d5, d6, d7, d8, d9⟩ := ten18 B4.out
        refine wpAnyH_take (i := 0) (v := ?_) rfl (by kernel_rfl) (by kernel_rfl) (by kernel_rfl) (fun _ _ _ h => h) (Or.inl ⟨by rfl, ?_⟩) (by assumption) ?_
        rotate_left
        · intro w hSw
          (try dsimp only at hSw)
          obtain ⟨s0, s1, s2, s3, s4, s5, s6, s7, s8, s9⟩ := hSw
          go_simp
          try with_reducible rfl
        simp only [Act.put, List.getElem_toArray, List.getElem_cons_succ, List.getElem_cons_zero, List.setIfInBounds_toArray, List.set_cons_zero, List.set_cons_succ]
        refine wpAnyH_take (i := 1) (v := ?_) rfl (by kernel_rfl) (by kernel_rfl) (by kernel_rfl) (fun _ _ _ h => h) (Or.inl ⟨by rfl, ?_⟩) (by assumption) ?_
        rotate_left
        · intro w hSw
          (try dsimp only at hSw)
          obtain ⟨s0, s1, s2, s3, s4, s5, s6, s7, s8, s9⟩ := hSw
          go_simp
          try with_reducible rfl
        simp only [Act.put, List.getElem_toArray, List.getElem_cons_succ, List.getElem_cons_zero, List.setIfInBounds_toArray, List.set_cons_zero, List.set_cons_succ]
        refine wpAnyH_take (i := 3) (v := ?_) rfl (by kernel_rfl) (by kernel_rfl) (by kernel_rfl) (fun _ _ _ h => h) (Or.inl ⟨by rfl, ?_⟩) (by assumption) ?_
        rotate_left
        · intro w hSw
          (try dsimp only at hSw)
          obtain ⟨s0, s1, s2, s3, s4, s5, s6, s7, s8, s9⟩ := hSw
          go_simp
          try with_reducible rfl
        simp only [Act.put, List.getElem_toArray, List.getElem_cons_succ, List.getElem_cons_zero, List.setIfInBounds_toArray, List.set_cons_zero, List.set_cons_succ]
        refine wpAnyH_take (i := 4) (v := ?_) rfl (by kernel_rfl) (by kernel_rfl) (by kernel_rfl) (fun _ _ _ h => h) (Or.inl ⟨by rfl, ?_⟩) (by assumption) ?_
        rotate_left
        · intro w hSw
          (try dsimp only at hSw)
          obtain ⟨s0, s1, s2, s3, s4, s5, s6, s7, s8, s9⟩ := hSw
          go_simp
          try with_reducible rfl
        simp only [Act.put, List.getElem_toArray, List.getElem_cons_succ, List.getElem_cons_zero, List.setIfInBounds_toArray, List.set_cons_zero, List.set_cons_succ]
        refine wpAnyH_take (i := 5) (v := ?_) rfl (by kernel_rfl) (by kernel_rfl) (by kernel_rfl) (fun _ _ _ h => h) (Or.inl ⟨by rfl, ?_⟩) (by assumption) ?_
        rotate_left
        · intro w hSw
          (try dsimp only at hSw)
          obtain ⟨s0, s1, s2, s3, s4, s5, s6, s7, s8, s9⟩ := hSw
          go_simp
          try with_reducible rfl
        simp only [Act.put, List.getElem_toArray, List.getElem_cons_succ, List.getElem_cons_zero, List.setIfInBounds_toArray, List.set_cons_zero, List.set_cons_succ]
        refine wpAnyH_take (i := 6) (v := ?_) rfl (by kernel_rfl) (by kernel_rfl) (by kernel_rfl) (fun _ _ _ h => h) (Or.inl ⟨by rfl, ?_⟩) (by assumption) ?_
        rotate_left
        · intro w hSw
          (try dsimp only at hSw)
          obtain ⟨s0, s1, s2, s3, s4, s5, s6, s7, s8, s9⟩ := hSw
          go_simp
          try with_reducible rfl
        simp only [Act.put, List.getElem_toArray, List.getElem_cons_succ, List.getElem_cons_zero, List.setIfInBounds_toArray, List.set_cons_zero, List.set_cons_succ]
        refine wpAnyH_take (i := 7) (v := ?_) rfl (by kernel_rfl) (by kernel_rfl) (by kernel_rfl) (fun _ _ _ h => h) (Or.inl ⟨by rfl, ?_⟩) (by assumption) ?_
        rotate_left
        · intro w hSw
          (try dsimp only at hSw)
          obtain ⟨s0, s1, s2, s3, s4, s5, s6, s7, s8, s9⟩ := hSw
          go_simp
          try with_reducible rfl
        simp only [Act.put, List.getElem_toArray, List.getElem_cons_succ, List.getElem_cons_zero, List.setIfInBounds_toArray, List.set_cons_zero, List.set_cons_succ]
        refine wpAnyH_take (i := 8) (v := ?_) rfl (by kernel_rfl) (by kernel_rfl) (by kernel_rfl) (fun _ _ _ h => h) (Or.inl ⟨by rfl, ?_⟩) (by assumption) ?_
        rotate_left
        · intro w hSw
          (try dsimp only at hSw)
          obtain ⟨s0, s1, s2, s3, s4, s5, s6, s7, s8, s9⟩ := hSw
          go_simp
          try with_reducible rfl
        simp only [Act.put, List.getElem_toArray, List.getElem_cons_succ, List.getElem_cons_zero, List.setIfInBounds_toArray, List.set_cons_zero, List.set_cons_succ]
        refine wpAnyH_take (i := 9) (v := ?_) rfl (by kernel_rfl) (by kernel_rfl) (by kernel_rfl) (fun _ _ _ h => h) (Or.inl ⟨by rfl, ?_⟩) (by assumption) ?_
        rotate_left
        · intro w hSw
          (try dsimp only at hSw)
          obtain ⟨s0, s1, s2, s3, s4, s5, s6, s7, s8, s9⟩ := hSw
          go_simp
          try with_reducible rfl
        simp only [Act.put, List.getElem_toArray, List.getElem_cons_succ, List.getElem_cons_zero, List.setIfInBounds_toArray, List.set_cons_zero, List.set_cons_succ]
        refine wpAnyH_take (i := 10) (v := ?_) rfl (by kernel_rfl) (by kernel_rfl) (by kernel_rfl) (fun _ _ _ h => h) (Or.inl ⟨by rfl, ?_⟩) (by assumption) ?_
        rotate_left
        · intro w hSw
          (try dsimp only at hSw)
          obtain ⟨s0, s1, s2, s3, s4, s5, s6, s7, s8, s9⟩ := hSw
          go_simp
          try with_reducible rfl
        simp only [Act.put, List.getElem_toArray, List.getElem_cons_succ, List.getElem_cons_zero, List.setIfInBounds_toArray, List.set_cons_zero, List.set_cons_succ]
        refine wpAnyH_ready (rs := [2]) (by kernel_rfl) (by simp) ?_
        refine AllReadyH.cons rfl (fun K hK => ?_) AllReadyH.nil
        go_simp
        refine (C6.out _ K4.out).mono ?_
        rintro e q5 ⟨rfl, k1⟩
        have K5 := hid (K4.out.trans k1)
        have B5 := hid (blk_kept k1 B4.out)
        clear k1 K4 B4 d0 d1 d2 d3 d4 d5 d6 d7 d8 d9
        obtain ⟨d0, d1, d2, d3, d4, d5, d6, d7, d8, d9⟩ := ten18 B5.out
        refine hK.out _ _ (by go_keep) (fun hHeld => ?_)
        clear hK K
        try simp only [Act.put, List.getElem_toArray, List.getElem_cons_succ, List.getElem_cons_zero, List.setIfInBounds_toArray, List.set_cons_zero, List.set_cons_succ]
        refine wpAnyH_ready (rs := [11]) (by kernel_rfl) (by simp) ?_
        refine AllReadyH.cons rfl (fun K hK => ?_) AllReadyH.nil
        go_simp
        refine (CW.out _ K5.out).mono ?_
        rintro e q6 ⟨rfl, k1⟩
        have K6 := hid (K5.out.trans k1)
        have B6 := hid (blk_kept k1 B5.out)
        clear k1 K5 B5 d0 d1 d2 d3 d4 d5 d6 d7 d8 d9
        obtain ⟨d0, d1, d2, d3, d4, d5, d6, d7, d8, d9⟩ := ten18 B6.out
        refine hK.out _ _ (by go_keep) (fun hHeld => ?_)
        clear hK K
        try simp only [Act.put, List.getElem_toArray, List.getElem_cons_succ, List.getElem_cons_zero, List.setIfInBounds_toArray, List.set_cons_zero, List.set_cons_succ]
        refine wpAnyH_take (i := 12) (v := ?_) rfl (by kernel_rfl) (by kernel_rfl) (by kernel_rfl) (fun _ _ _ h => h) (Or.inl ⟨by rfl, ?_⟩) (by assumption) ?_
        rotate_left
        · intro w hSw
          (try dsimp only at hSw)
          obtain ⟨s0, s1, s2, s3, s4, s5, s6, s7, s8, s9⟩ := hSw
          go_simp
          try with_reducible rfl
        simp only [Act.put, List.getElem_toArray, List.getElem_cons_succ, List.getElem_cons_zero, List.setIfInBounds_toArray, List.set_cons_zero, List.set_cons_succ]
        refine wpAnyH_done (by kernel_rfl) ?_ _
        clear hHeld
        go_wp2
        go_ret
        exact ⟨rfl, K6.out⟩
      · rw [if_neg (by simpa using hc)]
        have g1 : ¬ v.wx ≤ (x : Int) + 7 := hc
        go_enter Try.func43, Try.ntmps43
        obtain ⟨d0, d1, d2, d3, d4, d5, d6, d7, d8, d9⟩ := ten18 B1.out
        go_wp2_with fail
        refine (C0.out _ K1.out).mono ?_
        rintro e u1 ⟨rfl, k1⟩
        have K2 := hid (K1.out.trans k1)
        have B2 := hid (blk_kept k1 B1.out)
        clear k1 K1 B1 d0 d1 d2 d3 d4 d5 d6 d7 d8 d9
        obtain ⟨d0, d1, d2, d3, d4, d5, d6, d7, d8, d9⟩ := ten18 B2.out
        go_wp2_with fail
        refine (WI.out _ K2.out).mono ?_
        rintro e u2 ⟨rfl, k1⟩
        have K3 := hid (K2.out.trans k1)
        have B3 := hid (blk_kept k1 B2.out)
        clear k1 K2 B2 d0 d1 d2 d3 d4 d5 d6 d7 d8 d9
        obtain ⟨d0, d1, d2, d3, d4, d5, d6, d7, d8, d9⟩ := ten18 B3.out
        go_wp2_with fail
        clear d0 d1 d2 d3 d4 d5 d6 d7 d8 d9
        obtain ⟨d0, d1, d2, d3, d4, d5, d6, d7, d8, d9⟩ := ten18 B3.out
        refine wp_region_held_drew (S := (fun w' => w'.cell? ⟨w.heap.size, 0, none⟩ = some (.int .u8 v.ctl) ∧ w'.cell? ⟨w.heap.size, 1, none⟩ = some (.int .u8 v.scy) ∧ w'.cell? ⟨w.heap.size, 2, none⟩ = some (.int .u8 v.scx) ∧ w'.cell? ⟨w.heap.size, 3, none⟩ = some (.int .u8 v.wy) ∧ w'.cell? ⟨w.heap.size, 4, none⟩ = some (.int .u8 v.wx) ∧ w'.cell? ⟨w.heap.size, 5, none⟩ = some (.int .u8 v.bgp) ∧ w'.cell? ⟨w.heap.size, 6, none⟩ = some (.int .u8 v.o0) ∧ w'.cell? ⟨w.heap.size, 7, none⟩ = some (.int .u8 v.o1) ∧ w'.cell? ⟨w.heap.size, 8, none⟩ = some (.slice v.va vn v.vc) ∧ w'.cell? ⟨w.heap.size, 9, none⟩ = some (.slice v.oa on v.oc))) (by kernel_rfl) (by go_keep) (fun hHeld => ?_)
        clear d0 d1 d2 d3 d4 d5 d6 d7 d8 d9
        have K4 := hid K3.out.drew
        have B4 := hid (blk_drew B3.out)
        clear K3 B3
        obtain ⟨d0, d1, d2, d3, d4, d5, d6, d7, d8, d9⟩ := ten18 B4.out
        refine wpAnyH_take (i := 0) (v := ?_) rfl (by kernel_rfl) (by kernel_rfl) (by kernel_rfl) (fun _ _ _ h => h) (Or.inl ⟨by rfl, ?_⟩) (by assumption) ?_
        rotate_left
        · intro w hSw
          (try dsimp only at hSw)
          obtain ⟨s0, s1, s2, s3, s4, s5, s6, s7, s8, s9⟩ := hSw
          go_simp
          try with_reducible rfl
        simp only [Act.put, List.getElem_toArray, List.getElem_cons_succ, List.getElem_cons_zero, List.setIfInBounds_toArray, List.set_cons_zero, List.set_cons_succ]
        refine wpAnyH_take (i := 1) (v := ?_) rfl (by kernel_rfl) (by kernel_rfl) (by kernel_rfl) (fun _ _ _ h => h) (Or.inl ⟨by rfl, ?_⟩) (by assumption) ?_
        rotate_left
        · intro w hSw
          (try dsimp only at hSw)
          obtain ⟨s0, s1, s2, s3, s4, s5, s6, s7, s8, s9⟩ := hSw
          go_simp
          try with_reducible rfl
        simp only [Act.put, List.getElem_toArray, List.getElem_cons_succ, List.getElem_cons_zero, List.setIfInBounds_toArray, List.set_cons_zero, List.set_cons_succ]
        refine wpAnyH_take (i := 3) (v := ?_) rfl (by kernel_rfl) (by kernel_rfl) (by kernel_rfl) (fun _ _ _ h => h) (Or.inl ⟨by rfl, ?_⟩) (by assumption) ?_
        rotate_left
        · intro w hSw
          (try dsimp only at hSw)
          obtain ⟨s0, s1, s2, s3, s4, s5, s6, s7, s8, s9⟩ := hSw
          go_simp
          try with_reducible rfl
        simp only [Act.put, List.getElem_toArray, List.getElem_cons_succ, List.getElem_cons_zero, List.setIfInBounds_toArray, List.set_cons_zero, List.set_cons_succ]
        refine wpAnyH_take (i := 4) (v := ?_) rfl (by kernel_rfl) (by kernel_rfl) (by kernel_rfl) (fun _ _ _ h => h) (Or.inl ⟨by rfl, ?_⟩) (by assumption) ?_
        rotate_left
        · intro w hSw
          (try dsimp only at hSw)
          obtain ⟨s0, s1, s2, s3, s4, s5, s6, s7, s8, s9⟩ := hSw
          go_simp
          try with_reducible rfl
        simp only [Act.put, List.getElem_toArray, List.getElem_cons_succ, List.getElem_cons_zero, List.setIfInBounds_toArray, List.set_cons_zero, List.set_cons_succ]
        refine wpAnyH_take (i := 5) (v := ?_) rfl (by kernel_rfl) (by kernel_rfl) (by kernel_rfl) (fun _ _ _ h => h) (Or.inl ⟨by rfl, ?_⟩) (by assumption) ?_
        rotate_left
        · intro w hSw
          (try dsimp only at hSw)
          obtain ⟨s0, s1, s2, s3, s4, s5, s6, s7, s8, s9⟩ := hSw
          go_simp
          try with_reducible rfl
        simp only [Act.put, List.getElem_toArray, List.getElem_cons_succ, List.getElem_cons_zero, List.setIfInBounds_toArray, List.set_cons_zero, List.set_cons_succ]
        refine wpAnyH_take (i := 6) (v := ?_) rfl (by kernel_rfl) (by kernel_rfl) (by kernel_rfl) (fun _ _ _ h => h) (Or.inl ⟨by rfl, ?_⟩) (by assumption) ?_
        rotate_left
        · intro w hSw
          (try dsimp only at hSw)
          obtain ⟨s0, s1, s2, s3, s4, s5, s6, s7, s8, s9⟩ := hSw
          go_simp
          try with_reducible rfl
        simp only [Act.put, List.getElem_toArray, List.getElem_cons_succ, List.getElem_cons_zero, List.setIfInBounds_toArray, List.set_cons_zero, List.set_cons_succ]
        refine wpAnyH_take (i := 7) (v := ?_) rfl (by kernel_rfl) (by kernel_rfl) (by kernel_rfl) (fun _ _ _ h => h) (Or.inl ⟨by rfl, ?_⟩) (by assumption) ?_
        rotate_left
        · intro w hSw
          (try dsimp only at hSw)
          obtain ⟨s0, s1, s2, s3, s4, s5, s6, s7, s8, s9⟩ := hSw
          go_simp
          try with_reducible rfl
        simp only [Act.put, List.getElem_toArray, List.getElem_cons_succ, List.getElem_cons_zero, List.setIfInBounds_toArray, List.set_cons_zero, List.set_cons_succ]
        refine wpAnyH_take (i := 8) (v := ?_) rfl (by kernel_rfl) (by kernel_rfl) (by kernel_rfl) (fun _ _ _ h => h) (Or.inl ⟨by rfl, ?_⟩) (by assumption) ?_
        rotate_left
        · intro w hSw
          (try dsimp only at hSw)
          obtain ⟨s0, s1, s2, s3, s4, s5, s6, s7, s8, s9⟩ := hSw
          go_simp
          try with_reducible rfl
        simp only [Act.put, List.getElem_toArray, List.getElem_cons_succ, List.getElem_cons_zero, List.setIfInBounds_toArray, List.set_cons_zero, List.set_cons_succ]
        refine wpAnyH_take (i := 9) (v := ?_) rfl (by kernel_rfl) (by kernel_rfl) (by kernel_rfl) (fun _ _ _ h => h) (Or.inl ⟨by rfl, ?_⟩) (by assumption) ?_
        rotate_left
        · intro w hSw
          (try dsimp only at hSw)
          obtain ⟨s0, s1, s2, s3, s4, s5, s6, s7, s8, s9⟩ := hSw
          go_simp
          try with_reducible rfl
        simp only [Act.put, List.getElem_toArray, List.getElem_cons_succ, List.getElem_cons_zero, List.setIfInBounds_toArray, List.set_cons_zero, List.set_cons_succ]
        refine wpAnyH_take (i := 10) (v := ?_) rfl (by kernel_rfl) (by kernel_rfl) (by kernel_rfl) (fun _ _ _ h => h) (Or.inl ⟨by rfl, ?_⟩) (by assumption) ?_
        rotate_left
        · intro w hSw
          (try dsimp only at hSw)
          obtain ⟨s0, s1, s2, s3, s4, s5, s6, s7, s8, s9⟩ := hSw
          go_simp
          try with_reducible rfl
        simp only [Act.put, List.getElem_toArray, List.getElem_cons_succ, List.getElem_cons_zero, List.setIfInBounds_toArray, List.set_cons_zero, List.set_cons_succ]
        refine wpAnyH_take (i := 11) (v := ?_) rfl (by kernel_rfl) (by kernel_rfl) (by kernel_rfl) (fun _ _ _ h => h) (Or.inl ⟨by rfl, ?_⟩) (by assumption) ?_
        rotate_left
        · intro w hSw
          (try dsimp only at hSw)
          obtain ⟨s0, s1, s2, s3, s4, s5, s6, s7, s8, s9⟩ := hSw
          go_simp
          try with_reducible rfl
        simp only [Act.put, List.getElem_toArray, List.getElem_cons_succ, List.getElem_cons_zero, List.setIfInBounds_toArray, List.set_cons_zero, List.set_cons_succ]
        refine wpAnyH_take (i := 12) (v := ?_) rfl (by kernel_rfl) (by kernel_rfl) (by kernel_rfl) (fun _ _ _ h => h) (Or.inl ⟨by rfl, ?_⟩) (by assumption) ?_
        rotate_left
        · intro w hSw
          (try dsimp only at hSw)
          obtain ⟨s0, s1, s2, s3, s4, s5, s6, s7, s8, s9⟩ := hSw
          go_simp
          try with_reducible rfl
        simp only [Act.put, List.getElem_toArray, List.getElem_cons_succ, List.getElem_cons_zero, List.setIfInBounds_toArray, List.set_cons_zero, List.set_cons_succ]
        refine wpAnyH_take (i := 13) (v := ?_) rfl (by kernel_rfl) (by kernel_rfl) (by kernel_rfl) (fun _ _ _ h => h) (Or.inl ⟨by rfl, ?_⟩) (by assumption) ?_
        rotate_left
        · intro w hSw
          (try dsimp only at hSw)
          obtain ⟨s0, s1, s2, s3, s4, s5, s6, s7, s8, s9⟩ := hSw
          go_simp
          try with_reducible rfl
        simp only [Act.put, List.getElem_toArray, List.getElem_cons_succ, List.getElem_cons_zero, List.setIfInBounds_toArray, List.set_cons_zero, List.set_cons_succ]
        refine wpAnyH_take (i := 14) (v := ?_) rfl (by kernel_rfl) (by kernel_rfl) (by kernel_rfl) (fun _ _ _ h => h) (Or.inl ⟨by rfl, ?_⟩) (by assumption) ?_
        rotate_left
        · intro w hSw
          (try dsimp only at hSw)
          obtain ⟨s0, s1, s2, s3, s4, s5, s6, s7, s8, s9⟩ := hSw
          go_simp
          try with_reducible rfl
        simp only [Act.put, List.getElem_toArray, List.getElem_cons_succ, List.getElem_cons_zero, List.setIfInBounds_toArray, List.set_cons_zero, List.set_cons_succ]
        refine wpAnyH_take (i := 15) (v := ?_) rfl (by kernel_rfl) (by kernel_rfl) (by kernel_rfl) (fun _ _ _ h => h) (Or.inl ⟨by rfl, ?_⟩) (by assumption) ?_
        rotate_left
        · intro w hSw
          (try dsimp only at hSw)
          obtain ⟨s0, s1, s2, s3, s4, s5, s6, s7, s8, s9⟩ := hSw
          go_simp
          try with_reducible rfl
        simp only [Act.put, List.getElem_toArray, List.getElem_cons_succ, List.getElem_cons_zero, List.setIfInBounds_toArray, List.set_cons_zero, List.set_cons_succ]
        refine wpAnyH_ready (rs := [2]) (by kernel_rfl) (by simp) ?_
        refine AllReadyH.cons rfl (fun K hK => ?_) AllReadyH.nil
        go_simp
        refine (C3.out _ K4.out).mono ?_
        rintro e q5 ⟨rfl, k1⟩
        have K5 := hid (K4.out.trans k1)
        have B5 := hid (blk_kept k1 B4.out)
        clear k1 K4 B4 d0 d1 d2 d3 d4 d5 d6 d7 d8 d9
        obtain ⟨d0, d1, d2, d3, d4, d5, d6, d7, d8, d9⟩ := ten18 B5.out
        refine hK.out _ _ (by go_keep) (fun hHeld => ?_)
        clear hK K
        try simp only [Act.put, List.getElem_toArray, List.getElem_cons_succ, List.getElem_cons_zero, List.setIfInBounds_toArray, List.set_cons_zero, List.set_cons_succ]
        refine wpAnyH_ready (rs := [16]) (by kernel_rfl) (by simp) ?_
        refine AllReadyH.cons rfl (fun K hK => ?_) AllReadyH.nil
        go_simp
        refine (CG.out _ K5.out).mono ?_
        rintro e q6 ⟨rfl, k1⟩
        have K6 := hid (K5.out.trans k1)
        have B6 := hid (blk_kept k1 B5.out)
        clear k1 K5 B5 d0 d1 d2 d3 d4 d5 d6 d7 d8 d9
        obtain ⟨d0, d1, d2, d3, d4, d5, d6, d7, d8, d9⟩ := ten18 B6.out
        refine hK.out _ _ (by go_keep) (fun hHeld => ?_)
        clear hK K
        try simp only [Act.put, List.getElem_toArray, List.getElem_cons_succ, List.getElem_cons_zero, List.setIfInBounds_toArray, List.set_cons_zero, List.set_cons_succ]
        refine wpAnyH_take (i := 17) (v := ?_) rfl (by kernel_rfl) (by kernel_rfl) (by kernel_rfl) (fun _ _ _ h => h) (Or.inl ⟨by rfl, ?_⟩) (by assumption) ?_
        rotate_left
        · intro w hSw
          (try dsimp only at hSw)
          obtain ⟨s0, s1, s2, s3, s4, s5, s6, s7, s8, s9⟩ := hSw
          go_simp
          try with_reducible rfl
        simp only [Act.put, List.getElem_toArray, List.getElem_cons_succ, List.getElem_cons_zero, List.setIfInBounds_toArray, List.set_cons_zero, List.set_cons_succ]
        refine wpAnyH_done (by kernel_rfl) ?_ _
        clear hHeld
        go_wp2
        go_ret
        exact ⟨rfl, K6.out⟩
end Go.Proofs.Ytecgpdjgbdobbaa
