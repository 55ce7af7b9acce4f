/- The program's Window, row, color, palette. The document's bits, window, cells, ground. -/
import Derived.Test.YtecgpdjgbdobbabG19
import Derived.Test.YtecgpdjgbdobbabG14
import Derived.Test.YtecgpdjgbdobbabG17
import Derived.Deep.RegionHeld3
namespace Go.Proofs.Ytecgpdjgbdobbab
open Go.RowKit
set_option linter.unusedVariables false
set_option linter.unusedSimpArgs false

set_option maxRecDepth 100000 in
set_option maxHeartbeats 4000000 in
theorem pwin18 (v : Vd) (y : Int) (w : World) (hv : VdIn w v) (h0 : 0 ≤ y) (h1 : y ≤ 255) : Calls Try.prog 11 #[vdV v, .int .u8 y] w fun e w' => e = .returned (.bool (winP v y)) ∧ Kept w w' := by
  have c0 := hv.c0
  have c1 := hv.c1
  have y0 := hv.y0
  have y1 := hv.y1
  have x0 := hv.x0
  have x1 := hv.x1
  have u0 := hv.u0
  have u1 := hv.u1
  have t0 := hv.t0
  have t1 := hv.t1
  have b0 := hv.b0
  have b1 := hv.b1
  have p0 := hv.p0
  have p1 := hv.p1
  have q0 := hv.q0
  have q1 := hv.q1
  have B0 := hid (fun u => bit_any v.ctl 0 u c0 c1)
  have B5 := hid (fun u => bit_any v.ctl 5 u c0 c1)
  clear hv
  unfold winP
  obtain ⟨ctl, scy, scx, wy, wx, bgp, o0, o1, va, vc, vz, oa, oc, oz⟩ := v
  simp only [vdV] at *
  obtain ⟨vn, hvn⟩ : ∃ n, vz.length = n := ⟨_, rfl⟩
  obtain ⟨on, hon⟩ : ∃ n, oz.length = n := ⟨_, rfl⟩
  rw [hvn, hon]
  clear hvn hon
  cases q0 : bitOf ctl 0
  · rw [q0] at B0
    clear q0 B5
    simp only [Bool.false_and]
    go_enter Try.func11, Try.ntmps11
    go_wp2_with fail
    refine (B0.out _).mono ?_
    rintro e u ⟨rfl, rfl⟩
    go_wp2
    go_ret
    exact ⟨rfl, (Kept.refl w).alloc _⟩
  · cases q5 : bitOf ctl 5
    · rw [q0] at B0
      rw [q5] at B5
      clear q0 q5
      simp only [Bool.and_false, Bool.false_and]
      go_enter Try.func11, Try.ntmps11
      go_wp2_with fail
      refine (B0.out _).mono ?_
      rintro e u ⟨rfl, rfl⟩
      go_wp2_with fail
      refine (B5.out _).mono ?_
      rintro e u ⟨rfl, rfl⟩
      go_wp2
      go_ret
      exact ⟨rfl, (Kept.refl w).alloc _⟩
    · rw [q0] at B0
      rw [q5] at B5
      clear q0 q5
      simp only [Bool.true_and]
      by_cases gy : wy ≤ y
      · by_cases gx : wx ≤ 166
        · go_enter Try.func11, Try.ntmps11
          go_wp2_with fail
          refine (B0.out _).mono ?_
          rintro e u ⟨rfl, rfl⟩
          go_wp2_with fail
          refine (B5.out _).mono ?_
          rintro e u ⟨rfl, rfl⟩
          go_wp2
          go_ret
          exact ⟨by simp [gy, gx], (Kept.refl w).alloc _⟩
        · go_enter Try.func11, Try.ntmps11
          go_wp2_with fail
          refine (B0.out _).mono ?_
          rintro e u ⟨rfl, rfl⟩
          go_wp2_with fail
          refine (B5.out _).mono ?_
          rintro e u ⟨rfl, rfl⟩
          go_wp2
          go_ret
          exact ⟨by simp [gy, gx], (Kept.refl w).alloc _⟩
      · go_enter Try.func11, Try.ntmps11
        go_wp2_with fail
        refine (B0.out _).mono ?_
        rintro e u ⟨rfl, rfl⟩
        go_wp2_with fail
        refine (B5.out _).mono ?_
        rintro e u ⟨rfl, rfl⟩
        go_wp2
        go_ret
        exact ⟨by simp; omega, (Kept.refl w).alloc _⟩
set_option maxRecDepth 100000 in
set_option maxHeartbeats 4000000 in
theorem prow18 (v : Vd) (t n : Int) (s : Bool) (w : World) (hv : VdIn w v) (t0 : 0 ≤ t) (t1 : t ≤ 255) : Calls Try.prog 28 #[vdV v, .int .u8 t, .bool s, .int .i64 n] w fun e w' => e = .returned (.tuple #[.int .u8 (atP v.vz (placeP t s n)), .int .u8 (atP v.vz (placeP t s n + 1))]) ∧ Kept w w' := by
  have PL := hid (fun u => pplace17 t n s u t0 t1)
  have pb := place_bd t0 t1 s n
  have A1 := hid (fun u h => pat17 v.va v.vc v.vz (placeP t s n) u h)
  have A2 := hid (fun u h => pat17 v.va v.vc v.vz (placeP t s n + 1) u h)
  have R0 := hid hv.vs.row
  clear hv
  generalize placeP t s n = p at *
  generalize atP v.vz p = lo at *
  generalize atP v.vz (p + 1) = hi at *
  have e1 : IntKind.i64.wrap (p + 1) = p + 1 := by rw [IntKind.wrap_i64]; omega
  obtain ⟨ctl, scy, scx, wy, wx, bgp, o0, o1, va, vc, vz, oa, oc, oz⟩ := v
  simp only [vdV] at *
  obtain ⟨vn, hvn⟩ : ∃ n, vz.length = n := ⟨_, rfl⟩
  obtain ⟨on, hon⟩ : ∃ n, oz.length = n := ⟨_, rfl⟩
  rw [hvn] at A1 A2
  rw [hvn, hon]
  clear hvn hon
  have K0 := hid ((Kept.refl w).alloc (.cells #[.int .u8 ctl, .int .u8 scy, .int .u8 scx, .int .u8 wy, .int .u8 wx, .int .u8 bgp, .int .u8 o0, .int .u8 o1, .slice va vn vc, .slice oa on oc] 24))
  have BB : Hid (Blk (w.alloc (.cells #[.int .u8 ctl, .int .u8 scy, .int .u8 scx, .int .u8 wy, .int .u8 wx, .int .u8 bgp, .int .u8 o0, .int .u8 o1, .slice va vn vc, .slice oa on oc] 24)) w.heap.size 24 [.int .u8 ctl, .int .u8 scy, .int .u8 scx, .int .u8 wy, .int .u8 wx, .int .u8 bgp, .int .u8 o0, .int .u8 o1, .slice va vn vc, .slice oa on oc]) := blk_new w _ _
  go_enter Try.func28, Try.ntmps28
  go_wp2_with fail
  refine (PL.out _).mono ?_
  rintro e u0 ⟨rfl, rfl⟩
  have d0 : (w.alloc (.cells #[.int .u8 ctl, .int .u8 scy, .int .u8 scx, .int .u8 wy, .int .u8 wx, .int .u8 bgp, .int .u8 o0, .int .u8 o1, .slice va vn vc, .slice oa on oc] 24)).cell? ⟨w.heap.size, 8, none⟩ = some (.slice va vn vc) := blk_cell BB.out 8
  go_wp2_with fail
  refine wp_region_held_drew (S := (fun w' => w'.cell? ⟨w.heap.size, 8, none⟩ = some (.slice va vn vc))) (by kernel_rfl) (by go_keep) (fun hHeld => ?_)
  refine wpAnyH_take (i := 0) (v := ?_) rfl (by kernel_rfl) (by kernel_rfl) (by kernel_rfl) (fun _ _ _ h => h) (Or.inl ⟨by rfl, ?_⟩) (by assumption) ?_
  rotate_left
  · intro w hSw
    (try dsimp only at hSw)
    go_simp
    try with_reducible rfl
  simp only [Act.put, List.getElem_toArray, List.getElem_cons_succ, List.getElem_cons_zero, List.setIfInBounds_toArray, List.set_cons_zero, List.set_cons_succ]
  refine wpAnyH_take (i := 1) (v := ?_) rfl (by kernel_rfl) (by kernel_rfl) (by kernel_rfl) (fun _ _ _ h => h) (Or.inl ⟨by rfl, ?_⟩) (by assumption) ?_
  rotate_left
  · intro w hSw
    (try dsimp only at hSw)
    go_simp
    try with_reducible rfl
  simp only [Act.put, List.getElem_toArray, List.getElem_cons_succ, List.getElem_cons_zero, List.setIfInBounds_toArray, List.set_cons_zero, List.set_cons_succ]
  refine wpAnyH_take (i := 2) (v := ?_) rfl (by kernel_rfl) (by kernel_rfl) (by kernel_rfl) (fun _ _ _ h => h) (Or.inl ⟨by rfl, ?_⟩) (by assumption) ?_
  rotate_left
  · intro w hSw
    (try dsimp only at hSw)
    go_simp
    try with_reducible rfl
  simp only [Act.put, List.getElem_toArray, List.getElem_cons_succ, List.getElem_cons_zero, List.setIfInBounds_toArray, List.set_cons_zero, List.set_cons_succ]
  refine wpAnyH_take (i := 4) (v := ?_) rfl (by kernel_rfl) (by kernel_rfl) (by kernel_rfl) (fun _ _ _ h => h) (Or.inl ⟨by rfl, ?_⟩) (by assumption) ?_
  rotate_left
  · intro w hSw
    (try dsimp only at hSw)
    go_simp
    try with_reducible rfl
  simp only [Act.put, List.getElem_toArray, List.getElem_cons_succ, List.getElem_cons_zero, List.setIfInBounds_toArray, List.set_cons_zero, List.set_cons_succ]
  refine wpAnyH_take (i := 5) (v := ?_) rfl (by kernel_rfl) (by kernel_rfl) (by kernel_rfl) (fun _ _ _ h => h) (Or.inl ⟨by rfl, ?_⟩) (by assumption) ?_
  rotate_left
  · intro w hSw
    (try dsimp only at hSw)
    go_simp
    try with_reducible rfl
  simp only [Act.put, List.getElem_toArray, List.getElem_cons_succ, List.getElem_cons_zero, List.setIfInBounds_toArray, List.set_cons_zero, List.set_cons_succ]
  refine wpAnyH_take (i := 6) (v := ?_) rfl (by kernel_rfl) (by kernel_rfl) (by kernel_rfl) (fun _ _ _ h => h) (Or.inl ⟨by rfl, ?_⟩) (by assumption) ?_
  rotate_left
  · intro w hSw
    (try dsimp only at hSw)
    go_simp
    try with_reducible rfl
  simp only [Act.put, List.getElem_toArray, List.getElem_cons_succ, List.getElem_cons_zero, List.setIfInBounds_toArray, List.set_cons_zero, List.set_cons_succ]
  refine wpAnyH_take (i := 7) (v := ?_) rfl (by kernel_rfl) (by kernel_rfl) (by kernel_rfl) (fun _ _ _ h => h) (Or.inl ⟨by rfl, ?_⟩) (by assumption) ?_
  rotate_left
  · intro w hSw
    (try dsimp only at hSw)
    go_simp
    try with_reducible rfl
  simp only [Act.put, List.getElem_toArray, List.getElem_cons_succ, List.getElem_cons_zero, List.setIfInBounds_toArray, List.set_cons_zero, List.set_cons_succ]
  refine wpAnyH_ready (rs := [3]) (by kernel_rfl) (by simp) ?_
  refine AllReadyH.cons rfl (fun K hK => ?_) AllReadyH.nil
  go_simp
  refine (A1.out _ (row_kept K0.out.drew R0.out)).mono ?_
  rintro e y1 ⟨rfl, q1⟩
  have B1 := blk_kept q1 (blk_drew BB.out)
  have K1 := hid (K0.out.drew.trans q1)
  have d1 : y1.cell? ⟨w.heap.size, 8, none⟩ = some (.slice va vn vc) := blk_cell B1 8
  clear q1
  refine hK.out _ _ (by go_keep) (fun hHeld => ?_)
  clear hK K
  try simp only [Act.put, List.getElem_toArray, List.getElem_cons_succ, List.getElem_cons_zero, List.setIfInBounds_toArray, List.set_cons_zero, List.set_cons_succ]
  refine wpAnyH_ready (rs := [8]) (by kernel_rfl) (by simp) ?_
  refine AllReadyH.cons rfl (fun K hK => ?_) AllReadyH.nil
  go_simp
  refine (A2.out _ (row_kept K1.out R0.out)).mono ?_
  rintro e y2 ⟨rfl, q2⟩
  have B2 := blk_kept q2 B1
  have K2 := hid (K1.out.trans q2)
  have d2 : y2.cell? ⟨w.heap.size, 8, none⟩ = some (.slice va vn vc) := blk_cell B2 8
  clear q2
  refine hK.out _ _ (by go_keep) (fun hHeld => ?_)
  clear hK K
  try simp only [Act.put, List.getElem_toArray, List.getElem_cons_succ, List.getElem_cons_zero, List.setIfInBounds_toArray, List.set_cons_zero, List.set_cons_succ]
  refine wpAnyH_take (i := 9) (v := ?_) rfl (by kernel_rfl) (by kernel_rfl) (by kernel_rfl) (fun _ _ _ h => h) (Or.inl ⟨by rfl, ?_⟩) (by assumption) ?_
  rotate_left
  · intro w hSw
    (try dsimp only at hSw)
    go_simp
    try with_reducible rfl
  simp only [Act.put, List.getElem_toArray, List.getElem_cons_succ, List.getElem_cons_zero, List.setIfInBounds_toArray, List.set_cons_zero, List.set_cons_succ]
  refine wpAnyH_take (i := 10) (v := ?_) rfl (by kernel_rfl) (by kernel_rfl) (by kernel_rfl) (fun _ _ _ h => h) (Or.inl ⟨by rfl, ?_⟩) (by assumption) ?_
  rotate_left
  · intro w hSw
    (try dsimp only at hSw)
    go_simp
    try with_reducible rfl
  simp only [Act.put, List.getElem_toArray, List.getElem_cons_succ, List.getElem_cons_zero, List.setIfInBounds_toArray, List.set_cons_zero, List.set_cons_succ]
  refine wpAnyH_done (by kernel_rfl) ?_ _
  go_wp2_with fail
  refine bodyPost_ret (results_tmp2 rfl _ _ _) rfl ?_
  exact ⟨rfl, K2.out⟩
theorem ten18 {u : World} {b : Nat} {t : TypeId} {ctl scy scx wy wx bgp o0 o1 : Int} {va oa : Option Addr} {vn vc on oc : Nat} (h : Blk u b t [.int .u8 ctl, .int .u8 scy, .int .u8 scx, .int .u8 wy, .int .u8 wx, .int .u8 bgp, .int .u8 o0, .int .u8 o1, .slice va vn vc, .slice oa on oc]) : u.cell? ⟨b, 0, none⟩ = some (.int .u8 ctl) ∧ u.cell? ⟨b, 1, none⟩ = some (.int .u8 scy) ∧ u.cell? ⟨b, 2, none⟩ = some (.int .u8 scx) ∧ u.cell? ⟨b, 3, none⟩ = some (.int .u8 wy) ∧ u.cell? ⟨b, 4, none⟩ = some (.int .u8 wx) ∧ u.cell? ⟨b, 5, none⟩ = some (.int .u8 bgp) ∧ u.cell? ⟨b, 6, none⟩ = some (.int .u8 o0) ∧ u.cell? ⟨b, 7, none⟩ = some (.int .u8 o1) ∧ u.cell? ⟨b, 8, none⟩ = some (.slice va vn vc) ∧ u.cell? ⟨b, 9, none⟩ = some (.slice oa on oc) :=
  ⟨blk_cell h 0, blk_cell h 1, blk_cell h 2, blk_cell h 3, blk_cell h 4, blk_cell h 5, blk_cell h 6, blk_cell h 7, blk_cell h 8, blk_cell h 9⟩
set_option maxRecDepth 100000 in
set_option maxHeartbeats 4000000 in
theorem pcol18 (v : Vd) (h : Bool) (a b : Int) (w : World) (hv : VdIn w v) (a0 : 0 ≤ a) (a1 : a ≤ 255) (b0 : 0 ≤ b) (b1 : b ≤ 255) : Calls Try.prog 18 #[vdV v, .bool h, .int .u8 a, .int .u8 b] w fun e w' => e = .returned (.int .u8 (celP v h a b)) ∧ Kept w w' := by
  unfold celP
  have CE := hid (fun u => pcell17 a b h u a0 a1 b0 b1)
  have A1 := hid (fun u h2 => pat17 v.va v.vc v.vz (cellP h a b) u h2)
  have tb := at_bd hv.vs.row.2.1 (cellP h a b)
  generalize cellP h a b = cc at *
  generalize atP v.vz cc = t at *
  have B4 := hid (fun u => bit_any v.ctl 4 u hv.c0 hv.c1)
  generalize bitOf v.ctl 4 = s4 at *
  have RO : Hid (∀ u, Kept w u → _) := fun u k => prow18 v t b (!s4) u (vdIn_kept k hv) tb.1 tb.2
  have l1 := at_bd hv.vs.row.2.1 (placeP t (!s4) b)
  have l2 := at_bd hv.vs.row.2.1 (placeP t (!s4) b + 1)
  generalize atP v.vz (placeP t (!s4) b) = lo at *
  generalize atP v.vz (placeP t (!s4) b + 1) = hi at *
  have PX := hid (fun u => ppix17 lo hi (a % 8) u l1.1 l1.2 l2.1 l2.2)
  generalize pixP lo hi (a % 8) = px at *
  have R0 := hid hv.vs.row
  clear hv
  have m1 : Int.tmod a 8 = a % 8 := Int.tmod_eq_emod_of_nonneg a0
  have e2 : IntKind.u8.wrap (a % 8) = a % 8 := by rw [IntKind.wrap_u8]; omega
  have e3 : IntKind.i64.wrap (a % 8) = a % 8 := by rw [IntKind.wrap_i64]; omega
  have e4 : IntKind.i64.wrap b = b := by rw [IntKind.wrap_i64]; omega
  obtain ⟨ctl, scy, scx, wy, wx, bgp, o0, o1, va, vc, vz, oa, oc, oz⟩ := v
  simp only [vdV] at *
  obtain ⟨vn, hvn⟩ : ∃ n, vz.length = n := ⟨_, rfl⟩
  obtain ⟨on, hon⟩ : ∃ n, oz.length = n := ⟨_, rfl⟩
  rw [hvn] at A1 RO
  rw [hon] at RO
  rw [hvn, hon]
  clear hvn hon
  have K0 := hid ((Kept.refl w).alloc (.cells #[.int .u8 ctl, .int .u8 scy, .int .u8 scx, .int .u8 wy, .int .u8 wx, .int .u8 bgp, .int .u8 o0, .int .u8 o1, .slice va vn vc, .slice oa on oc] 24))
  have BB : Hid (Blk (w.alloc (.cells #[.int .u8 ctl, .int .u8 scy, .int .u8 scx, .int .u8 wy, .int .u8 wx, .int .u8 bgp, .int .u8 o0, .int .u8 o1, .slice va vn vc, .slice oa on oc] 24)) w.heap.size 24 [.int .u8 ctl, .int .u8 scy, .int .u8 scx, .int .u8 wy, .int .u8 wx, .int .u8 bgp, .int .u8 o0, .int .u8 o1, .slice va vn vc, .slice oa on oc]) := blk_new w _ _
  obtain ⟨d0, d1, d2, d3, d4, d5, d6, d7, d8, d9⟩ := ten18 BB.out
  go_enter Try.func18, Try.ntmps18
  go_wp2_with fail
  refine wp_region_held_drew (S := (fun w' => w'.cell? ⟨w.heap.size, 8, none⟩ = some (.slice va vn vc))) (by kernel_rfl) (by go_keep) (fun hHeld => ?_)
  refine wpAnyH_take (i := 0) (v := ?_) rfl (by kernel_rfl) (by kernel_rfl) (by kernel_rfl) (fun _ _ _ h => h) (Or.inl ⟨by rfl, ?_⟩) (by assumption) ?_
  rotate_left
  · intro w hSw
    (try dsimp only at hSw)
    go_simp
    try with_reducible rfl
  simp only [Act.put, List.getElem_toArray, List.getElem_cons_succ, List.getElem_cons_zero, List.setIfInBounds_toArray, List.set_cons_zero, List.set_cons_succ]
  refine wpAnyH_take (i := 1) (v := ?_) rfl (by kernel_rfl) (by kernel_rfl) (by kernel_rfl) (fun _ _ _ h => h) (Or.inl ⟨by rfl, ?_⟩) (by assumption) ?_
  rotate_left
  · intro w hSw
    (try dsimp only at hSw)
    go_simp
    try with_reducible rfl
  simp only [Act.put, List.getElem_toArray, List.getElem_cons_succ, List.getElem_cons_zero, List.setIfInBounds_toArray, List.set_cons_zero, List.set_cons_succ]
  refine wpAnyH_take (i := 2) (v := ?_) rfl (by kernel_rfl) (by kernel_rfl) (by kernel_rfl) (fun _ _ _ h => h) (Or.inl ⟨by rfl, ?_⟩) (by assumption) ?_
  rotate_left
  · intro w hSw
    (try dsimp only at hSw)
    go_simp
    try with_reducible rfl
  simp only [Act.put, List.getElem_toArray, List.getElem_cons_succ, List.getElem_cons_zero, List.setIfInBounds_toArray, List.set_cons_zero, List.set_cons_succ]
  refine wpAnyH_take (i := 3) (v := ?_) rfl (by kernel_rfl) (by kernel_rfl) (by kernel_rfl) (fun _ _ _ h => h) (Or.inl ⟨by rfl, ?_⟩) (by assumption) ?_
  rotate_left
  · intro w hSw
    (try dsimp only at hSw)
    go_simp
    try with_reducible rfl
  simp only [Act.put, List.getElem_toArray, List.getElem_cons_succ, List.getElem_cons_zero, List.setIfInBounds_toArray, List.set_cons_zero, List.set_cons_succ]
  refine wpAnyH_take (i := 4) (v := ?_) rfl (by kernel_rfl) (by kernel_rfl) (by kernel_rfl) (fun _ _ _ h => h) (Or.inl ⟨by rfl, ?_⟩) (by assumption) ?_
  rotate_left
  · intro w hSw
    (try dsimp only at hSw)
    go_simp
    try with_reducible rfl
  simp only [Act.put, List.getElem_toArray, List.getElem_cons_succ, List.getElem_cons_zero, List.setIfInBounds_toArray, List.set_cons_zero, List.set_cons_succ]
  refine wpAnyH_ready (rs := [5]) (by kernel_rfl) (by simp) ?_
  refine AllReadyH.cons rfl (fun K hK => ?_) AllReadyH.nil
  go_simp
  refine (CE.out _).mono ?_
  rintro e y1 ⟨rfl, rfl⟩
  have e8 : (w.alloc (.cells #[.int .u8 ctl, .int .u8 scy, .int .u8 scx, .int .u8 wy, .int .u8 wx, .int .u8 bgp, .int .u8 o0, .int .u8 o1, .slice va vn vc, .slice oa on oc] 24)).drew.cell? ⟨w.heap.size, 8, none⟩ = some (.slice va vn vc) := d8
  refine hK.out _ _ (by go_keep) (fun hHeld => ?_)
  clear hK K
  try simp only [Act.put, List.getElem_toArray, List.getElem_cons_succ, List.getElem_cons_zero, List.setIfInBounds_toArray, List.set_cons_zero, List.set_cons_succ]
  refine wpAnyH_ready (rs := [6]) (by kernel_rfl) (by simp) ?_
  refine AllReadyH.cons rfl (fun K hK => ?_) AllReadyH.nil
  go_simp
  refine (A1.out _ (row_kept K0.out.drew R0.out)).mono ?_
  rintro e y1 ⟨rfl, q1⟩
  have B1 := hid (blk_kept q1 (blk_drew BB.out))
  have K1 := hid (K0.out.drew.trans q1)
  obtain ⟨f0, f1, f2, f3, f4, f5, f6, f7, f8, f9⟩ := ten18 B1.out
  clear q1
  refine hK.out _ _ (by go_keep) (fun hHeld => ?_)
  clear hK K
  try simp only [Act.put, List.getElem_toArray, List.getElem_cons_succ, List.getElem_cons_zero, List.setIfInBounds_toArray, List.set_cons_zero, List.set_cons_succ]
  refine wpAnyH_take (i := 7) (v := ?_) rfl (by kernel_rfl) (by kernel_rfl) (by kernel_rfl) (fun _ _ _ h => h) (Or.inl ⟨by rfl, ?_⟩) (by assumption) ?_
  rotate_left
  · intro w hSw
    (try dsimp only at hSw)
    go_simp
    try with_reducible rfl
  simp only [Act.put, List.getElem_toArray, List.getElem_cons_succ, List.getElem_cons_zero, List.setIfInBounds_toArray, List.set_cons_zero, List.set_cons_succ]
  refine wpAnyH_done (by kernel_rfl) ?_ _
  clear d0 d1 d2 d3 d4 d5 d6 d7 d8 d9 e8 hHeld
  go_wp2_with fail
  refine wp_region_held_drew (S := (fun w' => w'.cell? ⟨w.heap.size, 0, none⟩ = some (.int .u8 ctl) ∧ w'.cell? ⟨w.heap.size, 1, none⟩ = some (.int .u8 scy) ∧ w'.cell? ⟨w.heap.size, 2, none⟩ = some (.int .u8 scx) ∧ w'.cell? ⟨w.heap.size, 3, none⟩ = some (.int .u8 wy) ∧ w'.cell? ⟨w.heap.size, 4, none⟩ = some (.int .u8 wx) ∧ w'.cell? ⟨w.heap.size, 5, none⟩ = some (.int .u8 bgp) ∧ w'.cell? ⟨w.heap.size, 6, none⟩ = some (.int .u8 o0) ∧ w'.cell? ⟨w.heap.size, 7, none⟩ = some (.int .u8 o1) ∧ w'.cell? ⟨w.heap.size, 8, none⟩ = some (.slice va vn vc) ∧ w'.cell? ⟨w.heap.size, 9, none⟩ = some (.slice oa on oc))) (by kernel_rfl) (by go_keep) (fun hHeld => ?_)
  refine wpAnyH_take (i := 0) (v := ?_) rfl (by kernel_rfl) (by kernel_rfl) (by kernel_rfl) (fun _ _ _ h => h) (Or.inl ⟨by rfl, ?_⟩) (by assumption) ?_
  rotate_left
  · intro w hSw
    (try dsimp only at hSw)
    obtain ⟨s0, s1, s2, s3, s4, s5, s6, s7, s8, s9⟩ := hSw
    go_simp
    try with_reducible rfl
  simp only [Act.put, List.getElem_toArray, List.getElem_cons_succ, List.getElem_cons_zero, List.setIfInBounds_toArray, List.set_cons_zero, List.set_cons_succ]
  refine wpAnyH_take (i := 1) (v := ?_) rfl (by kernel_rfl) (by kernel_rfl) (by kernel_rfl) (fun _ _ _ h => h) (Or.inl ⟨by rfl, ?_⟩) (by assumption) ?_
  rotate_left
  · intro w hSw
    (try dsimp only at hSw)
    obtain ⟨s0, s1, s2, s3, s4, s5, s6, s7, s8, s9⟩ := hSw
    go_simp
    try with_reducible rfl
  simp only [Act.put, List.getElem_toArray, List.getElem_cons_succ, List.getElem_cons_zero, List.setIfInBounds_toArray, List.set_cons_zero, List.set_cons_succ]
  refine wpAnyH_take (i := 2) (v := ?_) rfl (by kernel_rfl) (by kernel_rfl) (by kernel_rfl) (fun _ _ _ h => h) (Or.inl ⟨by rfl, ?_⟩) (by assumption) ?_
  rotate_left
  · intro w hSw
    (try dsimp only at hSw)
    obtain ⟨s0, s1, s2, s3, s4, s5, s6, s7, s8, s9⟩ := hSw
    go_simp
    try with_reducible rfl
  simp only [Act.put, List.getElem_toArray, List.getElem_cons_succ, List.getElem_cons_zero, List.setIfInBounds_toArray, List.set_cons_zero, List.set_cons_succ]
  refine wpAnyH_take (i := 3) (v := ?_) rfl (by kernel_rfl) (by kernel_rfl) (by kernel_rfl) (fun _ _ _ h => h) (Or.inl ⟨by rfl, ?_⟩) (by assumption) ?_
  rotate_left
  · intro w hSw
    (try dsimp only at hSw)
    obtain ⟨s0, s1, s2, s3, s4, s5, s6, s7, s8, s9⟩ := hSw
    go_simp
    try with_reducible rfl
  simp only [Act.put, List.getElem_toArray, List.getElem_cons_succ, List.getElem_cons_zero, List.setIfInBounds_toArray, List.set_cons_zero, List.set_cons_succ]
  refine wpAnyH_take (i := 6) (v := ?_) rfl (by kernel_rfl) (by kernel_rfl) (by kernel_rfl) (fun _ _ _ h => h) (Or.inl ⟨by rfl, ?_⟩) (by assumption) ?_
  rotate_left
  · intro w hSw
    (try dsimp only at hSw)
    obtain ⟨s0, s1, s2, s3, s4, s5, s6, s7, s8, s9⟩ := hSw
    go_simp
    try with_reducible rfl
  simp only [Act.put, List.getElem_toArray, List.getElem_cons_succ, List.getElem_cons_zero, List.setIfInBounds_toArray, List.set_cons_zero, List.set_cons_succ]
  refine wpAnyH_take (i := 7) (v := ?_) rfl (by kernel_rfl) (by kernel_rfl) (by kernel_rfl) (fun _ _ _ h => h) (Or.inl ⟨by rfl, ?_⟩) (by assumption) ?_
  rotate_left
  · intro w hSw
    (try dsimp only at hSw)
    obtain ⟨s0, s1, s2, s3, s4, s5, s6, s7, s8, s9⟩ := hSw
    go_simp
    try with_reducible rfl
  simp only [Act.put, List.getElem_toArray, List.getElem_cons_succ, List.getElem_cons_zero, List.setIfInBounds_toArray, List.set_cons_zero, List.set_cons_succ]
  refine wpAnyH_ready (rs := [4]) (by kernel_rfl) (by simp) ?_
  refine AllReadyH.cons rfl (fun K hK => ?_) AllReadyH.nil
  go_simp
  refine (B4.out _).mono ?_
  rintro e y2 ⟨rfl, rfl⟩
  obtain ⟨g0, g1, g2, g3, g4, g5, g6, g7, g8, g9⟩ := ten18 (blk_drew B1.out)
  refine hK.out _ _ (by go_keep) (fun hHeld => ?_)
  clear hK K
  try simp only [Act.put, List.getElem_toArray, List.getElem_cons_succ, List.getElem_cons_zero, List.setIfInBounds_toArray, List.set_cons_zero, List.set_cons_succ]
  refine wpAnyH_take (i := 5) (v := ?_) rfl (by kernel_rfl) (by kernel_rfl) (by kernel_rfl) (fun _ _ _ h => h) (Or.inl ⟨by rfl, ?_⟩) (by assumption) ?_
  rotate_left
  · intro w hSw
    (try dsimp only at hSw)
    obtain ⟨s0, s1, s2, s3, s4, s5, s6, s7, s8, s9⟩ := hSw
    go_simp
    try with_reducible rfl
  simp only [Act.put, List.getElem_toArray, List.getElem_cons_succ, List.getElem_cons_zero, List.setIfInBounds_toArray, List.set_cons_zero, List.set_cons_succ]
  refine wpAnyH_ready (rs := [8]) (by kernel_rfl) (by simp) ?_
  refine AllReadyH.cons rfl (fun K hK => ?_) AllReadyH.nil
  go_simp
  refine (RO.out _ K1.out.drew).mono ?_
  rintro e y3 ⟨rfl, q3⟩
  have B3 := blk_kept q3 (blk_drew B1.out)
  have K3 := hid (K1.out.drew.trans q3)
  obtain ⟨h0, h1, h2, h3, h4, h5, h6, h7, h8, h9⟩ := ten18 B3
  clear q3
  refine hK.out _ _ (by go_keep) (fun hHeld => ?_)
  clear hK K
  try simp only [Act.put, List.getElem_toArray, List.getElem_cons_succ, List.getElem_cons_zero, List.setIfInBounds_toArray, List.set_cons_zero, List.set_cons_succ]
  refine wpAnyH_take (i := 9) (v := ?_) rfl (by kernel_rfl) (by kernel_rfl) (by kernel_rfl) (fun _ _ _ h => h) (Or.inl ⟨by rfl, ?_⟩) (by assumption) ?_
  rotate_left
  · intro w hSw
    (try dsimp only at hSw)
    obtain ⟨s0, s1, s2, s3, s4, s5, s6, s7, s8, s9⟩ := hSw
    go_simp
    try with_reducible rfl
  simp only [Act.put, List.getElem_toArray, List.getElem_cons_succ, List.getElem_cons_zero, List.setIfInBounds_toArray, List.set_cons_zero, List.set_cons_succ]
  refine wpAnyH_take (i := 10) (v := ?_) rfl (by kernel_rfl) (by kernel_rfl) (by kernel_rfl) (fun _ _ _ h => h) (Or.inl ⟨by rfl, ?_⟩) (by assumption) ?_
  rotate_left
  · intro w hSw
    (try dsimp only at hSw)
    obtain ⟨s0, s1, s2, s3, s4, s5, s6, s7, s8, s9⟩ := hSw
    go_simp
    try with_reducible rfl
  simp only [Act.put, List.getElem_toArray, List.getElem_cons_succ, List.getElem_cons_zero, List.setIfInBounds_toArray, List.set_cons_zero, List.set_cons_succ]
  refine wpAnyH_take (i := 11) (v := ?_) rfl (by kernel_rfl) (by kernel_rfl) (by kernel_rfl) (fun _ _ _ h => h) (Or.inl ⟨by rfl, ?_⟩) (by assumption) ?_
  rotate_left
  · intro w hSw
    (try dsimp only at hSw)
    obtain ⟨s0, s1, s2, s3, s4, s5, s6, s7, s8, s9⟩ := hSw
    go_simp
    try with_reducible rfl
  simp only [Act.put, List.getElem_toArray, List.getElem_cons_succ, List.getElem_cons_zero, List.setIfInBounds_toArray, List.set_cons_zero, List.set_cons_succ]
  refine wpAnyH_take (i := 12) (v := ?_) rfl (by kernel_rfl) (by kernel_rfl) (by kernel_rfl) (fun _ _ _ h => h) (Or.inl ⟨by rfl, ?_⟩) (by assumption) ?_
  rotate_left
  · intro w hSw
    (try dsimp only at hSw)
    obtain ⟨s0, s1, s2, s3, s4, s5, s6, s7, s8, s9⟩ := hSw
    go_simp
    try with_reducible rfl
  simp only [Act.put, List.getElem_toArray, List.getElem_cons_succ, List.getElem_cons_zero, List.setIfInBounds_toArray, List.set_cons_zero, List.set_cons_succ]
  refine wpAnyH_take (i := 13) (v := ?_) rfl (by kernel_rfl) (by kernel_rfl) (by kernel_rfl) (fun _ _ _ h => h) (Or.inl ⟨by rfl, ?_⟩) (by assumption) ?_
  rotate_left
  · intro w hSw
    (try dsimp only at hSw)
    obtain ⟨s0, s1, s2, s3, s4, s5, s6, s7, s8, s9⟩ := hSw
    go_simp
    try with_reducible rfl
  simp only [Act.put, List.getElem_toArray, List.getElem_cons_succ, List.getElem_cons_zero, List.setIfInBounds_toArray, List.set_cons_zero, List.set_cons_succ]
  refine wpAnyH_done (by kernel_rfl) ?_ _
  clear hHeld
  go_wp2_with fail
  refine (PX.out _).mono ?_
  rintro e y4 ⟨rfl, q4⟩
  have K4 := hid (K3.out.trans q4)
  clear q4
  go_wp2
  go_ret
  exact ⟨rfl, K4.out⟩
set_option maxRecDepth 100000 in
set_option maxHeartbeats 4000000 in
theorem ppal18 (v : Vd) (o : Ob) (w : World) (hv : VdIn w v) : Calls Try.prog 24 #[vdV v, obV o] w fun e w' => e = .returned (.int .u8 (palP v o)) ∧ Kept w w' := by
  unfold palP
  have B4 := hid (fun u => bit_any (o.2.2.2.1.val : Int) 4 u (by omega) (by omega))
  generalize bitOf (o.2.2.2.1.val : Int) 4 = b at *
  obtain ⟨ctl, scy, scx, wy, wx, bgp, o0, o1, va, vc, vz, oa, oc, oz⟩ := v
  obtain ⟨⟨oy, ly⟩, ⟨ox, lx⟩, ⟨ot, lt⟩, ⟨oatt, la⟩, ⟨onn, ln⟩⟩ := o
  simp only [vdV, obV, b8] at *
  clear hv
  obtain ⟨vn, hvn⟩ : ∃ n, vz.length = n := ⟨_, rfl⟩
  obtain ⟨on, hon⟩ : ∃ n, oz.length = n := ⟨_, rfl⟩
  rw [hvn, hon]
  clear hvn hon
  cases b
  all_goals
    go_enter Try.func24, Try.ntmps24
    go_wp2_with fail
    refine (B4.out _).mono ?_
    rintro e u ⟨rfl, rfl⟩
    go_wp2
    go_ret
    exact ⟨rfl, ((Kept.refl w).alloc _).alloc _⟩
end Go.Proofs.Ytecgpdjgbdobbab
namespace Go.Proofs.Ytecgpdjgbdobbab
open Go.RowKit
set_option linter.unusedVariables false
set_option linter.unusedSimpArgs false

end Go.Proofs.Ytecgpdjgbdobbab
