/- What read of the program's layer 7 comes to where it gives up. -/
import Derived.Test.YtfmehkaojfjdjaaDoorPg7f
namespace Go.Proofs.YtfmehkaojfjdjaaDoor
open Go.RowKit
set_option linter.unusedVariables false
set_option linter.unusedSimpArgs false

set_option maxRecDepth 100000 in
theorem pread_short (z : List Int) (a : Option Addr) (cap : Nat) (w : World) (h : z.length < 336) :
    Calls Tryd.prog 19 #[.slice a z.length cap] w fun e w' => e = .panicked (pan 2) ∧ Kept w w' := by
  generalize z.length = n at *
  go_enter Tryd.func19, Tryd.ntmps19
  go_wp2_with fail
  refine (phead_no n cap a _ h).mono ?_
  rintro e w' ⟨rfl, rfl⟩
  go_wp2
  exact ⟨rfl, rfl, (Kept.refl _).alloc _⟩
set_option maxRecDepth 100000 in
theorem pread_kind (z : List Int) (a : Option Addr) (cap : Nat) (w : World) (lay : Lay7 w) (row : Row w a z) (lc : z.length ≤ cap) (cm : cap ≤ maxLen) (hl : 336 ≤ z.length) (hk : kindOk (z.getD 327 0) = false) :
    Calls Tryd.prog 19 #[.slice a z.length cap] w fun e w' => e = .panicked (pan 4) ∧ Kept w w' := by
  obtain ⟨x, rfl, hx, hc⟩ := row_get row (by omega)
  have LY := hid lay
  obtain ⟨c327, k0, k1⟩ := hc 327 (by omega)
  replace c327 := get_off c327 (by decide)
  generalize z.getD 327 0 = K at *
  have CK := hid (fun u (g : Kept w u) => ptraits_any K u (LY.out.kept g) k0 k1)
  rw [hk] at CK
  obtain ⟨n, hn⟩ : ∃ n : Nat, z.length = n := ⟨_, rfl⟩
  rw [hn] at hl lc ⊢
  clear hc lay row hk hn
  have i327 : (327 : Int) < 336 := by decide
  go_enter Tryd.func19, Tryd.ntmps19
  go_wp2_with fail
  refine (phead_any n cap x _ hl lc cm).mono ?_
  rintro e w' ⟨rfl, rfl⟩
  go_wp2_with fail
  refine (CK.out _ ((Kept.refl w).alloc _)).mono ?_
  rintro e u1 ⟨h, g1⟩
  obtain ⟨_, rfl⟩ := h.resolve_left (fun q => by cases q.1)
  have K1 := hid (((Kept.refl w).alloc _).trans (Kept.of g1))
  clear h g1
  go_wp2
  exact ⟨rfl, rfl, K1.out⟩
set_option maxRecDepth 100000 in
set_option maxHeartbeats 8000000 in
theorem pread_size (z : List Int) (a : Option Addr) (cap : Nat) (w : World) (lay : Lay7 w) (row : Row w a z) (lc : z.length ≤ cap) (cm : cap ≤ maxLen) (hl : 336 ≤ z.length) (hk : kindOk (z.getD 327 0) = true) (hs : sizeBad (z.getD 328 0) (z.getD 329 0) (z.length : Int)) :
    Calls Tryd.prog 19 #[.slice a z.length cap] w fun e w' => e = .panicked (pan 5) ∧ Kept w w' := by
  obtain ⟨x, rfl, hx, hc⟩ := row_get row (by omega)
  have LY := hid lay
  obtain ⟨c327, k0, k1⟩ := hc 327 (by omega)
  obtain ⟨c328, r0, r1⟩ := hc 328 (by omega)
  obtain ⟨c329, m0, m1⟩ := hc 329 (by omega)
  replace c327 := get_off c327 (by decide)
  replace c328 := get_off c328 (by decide)
  replace c329 := get_off c329 (by decide)
  generalize z.getD 327 0 = K at *
  generalize z.getD 328 0 = R at *
  generalize z.getD 329 0 = M at *
  have CK := hid (fun u (g : Kept w u) => ptraits_any K u (LY.out.kept g) k0 k1)
  rw [hk] at CK
  have CZ := hid (fun u => psize_no R M (z.length : Int) u r0 m0 m1 hs)
  unfold traitsV at CK
  generalize kMap K = MP at *
  generalize kRam K = RM at *
  generalize kBat K = BT at *
  generalize kClk K = CL at *
  obtain ⟨n, hn⟩ : ∃ n : Nat, z.length = n := ⟨_, rfl⟩
  rw [hn] at hl lc CZ ⊢
  clear hc lay row hk hn hs
  have i327 : (327 : Int) < 336 := by decide
  go_enter Tryd.func19, Tryd.ntmps19
  go_wp2_with fail
  refine (phead_any n cap x _ hl lc cm).mono ?_
  rintro e w' ⟨rfl, rfl⟩
  go_wp2_with fail
  refine (CK.out _ ((Kept.refl w).alloc _)).mono ?_
  rintro e u1 ⟨h, g1⟩
  obtain ⟨_, rfl⟩ := h.resolve_right (fun q => by cases q.1)
  have K1 := hid (((Kept.refl w).alloc _).trans (Kept.of g1))
  have xu : x.block < u1.heap.size := Nat.lt_of_lt_of_le hx K1.out.size
  have xu3 : x.block < u1.heap.size + 1 := by omega
  have d328 := (K1.out.cell (x := ⟨x.block, x.off + 328, none⟩) hx).trans c328
  have d329 := (K1.out.cell (x := ⟨x.block, x.off + 329, none⟩) hx).trans c329
  clear h g1 c327 c328 c329
  go_wp2_with fail
  refine wp_region_held_drew (S := (fun w' => x.block < w'.heap.size ∧ w'.cell? ⟨x.block, x.off + 328, none⟩ = some (.int .u8 R) ∧ w'.cell? ⟨x.block, x.off + 329, none⟩ = some (.int .u8 M))) (by kernel_rfl) (by go_keep) (fun hHeld => ?_)
  refine wpAnyH_take (i := 0) (v := ?_) rfl (by kernel_rfl) (by kernel_rfl) (by kernel_rfl) (fun _ _ _ h => h) (Or.inl ⟨by rfl, ?_⟩) (by assumption) ?_
  rotate_left
  · intro w hSw
    (try dsimp only at hSw)
    go_simp
    try with_reducible rfl
  simp only [Act.put, List.setIfInBounds_toArray, List.set_cons_zero, List.set_cons_succ]
  refine wpAnyH_take (i := 1) (v := ?_) rfl (by kernel_rfl) (by kernel_rfl) (by kernel_rfl) (fun _ _ _ h => h) (Or.inl ⟨by rfl, ?_⟩) (by assumption) ?_
  rotate_left
  · intro w hSw
    (try dsimp only at hSw)
    go_simp
    try with_reducible rfl
  simp only [Act.put, List.setIfInBounds_toArray, List.set_cons_zero, List.set_cons_succ]
  refine wpAnyH_take (i := 2) (v := ?_) rfl (by kernel_rfl) (by kernel_rfl) (by kernel_rfl) (fun _ _ _ h => h) (Or.inl ⟨by rfl, ?_⟩) (by assumption) ?_
  rotate_left
  · intro w hSw
    (try dsimp only at hSw)
    go_simp
    try with_reducible rfl
  simp only [Act.put, List.setIfInBounds_toArray, List.set_cons_zero, List.set_cons_succ]
  refine wpAnyH_take (i := 3) (v := ?_) rfl (by kernel_rfl) (by kernel_rfl) (by kernel_rfl) (fun _ _ _ h => h) (Or.inl ⟨by rfl, ?_⟩) (by assumption) ?_
  rotate_left
  · intro w hSw
    (try dsimp only at hSw)
    go_simp
    try with_reducible rfl
  simp only [Act.put, List.setIfInBounds_toArray, List.set_cons_zero, List.set_cons_succ]
  refine wpAnyH_take (i := 4) (v := ?_) rfl (by kernel_rfl) (by kernel_rfl) (by kernel_rfl) (fun _ _ _ h => h) (Or.inl ⟨by rfl, ?_⟩) (by assumption) ?_
  rotate_left
  · intro w hSw
    (try dsimp only at hSw)
    go_simp
    try with_reducible rfl
  simp only [Act.put, List.setIfInBounds_toArray, List.set_cons_zero, List.set_cons_succ]
  refine wpAnyH_take (i := 5) (v := ?_) rfl (by kernel_rfl) (by kernel_rfl) (by kernel_rfl) (fun _ _ _ h => h) (Or.inl ⟨by rfl, ?_⟩) (by assumption) ?_
  rotate_left
  · intro w hSw
    (try dsimp only at hSw)
    go_simp
    try with_reducible rfl
  simp only [Act.put, List.setIfInBounds_toArray, List.set_cons_zero, List.set_cons_succ]
  refine wpAnyH_take (i := 6) (v := ?_) rfl (by kernel_rfl) (by kernel_rfl) (by kernel_rfl) (fun _ _ _ h => h) (Or.inl ⟨by rfl, ?_⟩) (by assumption) ?_
  rotate_left
  · intro w hSw
    (try dsimp only at hSw)
    go_simp
    try with_reducible rfl
  simp only [Act.put, List.setIfInBounds_toArray, List.set_cons_zero, List.set_cons_succ]
  refine wpAnyH_take (i := 7) (v := ?_) rfl (by kernel_rfl) (by kernel_rfl) (by kernel_rfl) (fun _ _ _ h => h) (Or.inl ⟨by rfl, ?_⟩) (by assumption) ?_
  rotate_left
  · intro w hSw
    (try dsimp only at hSw)
    go_simp
    try with_reducible rfl
  simp only [Act.put, List.setIfInBounds_toArray, List.set_cons_zero, List.set_cons_succ]
  refine wpAnyH_ready (rs := [8]) (by kernel_rfl) (by simp) ?_
  refine AllReadyH.cons rfl (fun K hK => ?_) AllReadyH.nil
  go_simp
  refine (CZ.out _).mono ?_
  rintro e v1 ⟨rfl, rfl⟩
  exact ⟨rfl, rfl, (K1.out.alloc _).drew⟩
set_option maxRecDepth 100000 in
set_option maxHeartbeats 8000000 in
theorem pread_sum (z : List Int) (a : Option Addr) (cap : Nat) (w : World) (lay : Lay7 w) (row : Row w a z) (lc : z.length ≤ cap) (cm : cap ≤ maxLen) (hl : 336 ≤ z.length) (hk : kindOk (z.getD 327 0) = true) (hs : ¬ sizeBad (z.getD 328 0) (z.getD 329 0) (z.length : Int)) (hsum : sumOf z ≠ z.getD 333 0) :
    Calls Tryd.prog 19 #[.slice a z.length cap] w fun e w' => e = .panicked (pan 3) ∧ Kept w w' := by
  obtain ⟨x, rfl, hx, hc⟩ := row_get row (by omega)
  have LY := hid lay
  have HC := hid (fun i (hi : i < 336) => hc i (by omega))
  have CS := hid (fun u (g : Kept w u) => pchk_no z x 336 cap u (by decide) (by unfold maxLen; decide) (by omega) cm hl (Nat.lt_of_lt_of_le hx g.size) (fun i hi => ⟨(g.cell (x := x.add i) (by rw [addB]; exact hx)).trans (HC.out i hi).1, (HC.out i hi).2⟩) hsum)
  obtain ⟨c327, k0, k1⟩ := hc 327 (by omega)
  obtain ⟨c328, r0, r1⟩ := hc 328 (by omega)
  obtain ⟨c329, m0, m1⟩ := hc 329 (by omega)
  replace c327 := get_off c327 (by decide)
  replace c328 := get_off c328 (by decide)
  replace c329 := get_off c329 (by decide)
  generalize z.getD 327 0 = K at *
  generalize z.getD 328 0 = R at *
  generalize z.getD 329 0 = M at *
  have CK := hid (fun u (g : Kept w u) => ptraits_any K u (LY.out.kept g) k0 k1)
  rw [hk] at CK
  have CZ := hid (fun u => psize_ok R M (z.length : Int) u r0 m0 m1 hs)
  unfold traitsV at CK
  generalize kMap K = MP at *
  generalize kRam K = RM at *
  generalize kBat K = BT at *
  generalize kClk K = CL at *
  obtain ⟨n, hn⟩ : ∃ n : Nat, z.length = n := ⟨_, rfl⟩
  rw [hn] at hl lc CZ ⊢
  clear hc lay row hk hn hs hsum HC
  have i327 : (327 : Int) < 336 := by decide
  go_enter Tryd.func19, Tryd.ntmps19
  go_wp2_with fail
  refine (phead_any n cap x _ hl lc cm).mono ?_
  rintro e w' ⟨rfl, rfl⟩
  go_wp2_with fail
  refine (CK.out _ ((Kept.refl w).alloc _)).mono ?_
  rintro e u1 ⟨h, g1⟩
  obtain ⟨_, rfl⟩ := h.resolve_right (fun q => by cases q.1)
  have K1 := hid (((Kept.refl w).alloc _).trans (Kept.of g1))
  have xu : x.block < u1.heap.size := Nat.lt_of_lt_of_le hx K1.out.size
  have xu3 : x.block < u1.heap.size + 1 := by omega
  have d328 := (K1.out.cell (x := ⟨x.block, x.off + 328, none⟩) hx).trans c328
  have d329 := (K1.out.cell (x := ⟨x.block, x.off + 329, none⟩) hx).trans c329
  clear h g1 c327 c328 c329
  go_wp2_with fail
  go_quiet ((go_at_call 29; exact Calls.quiet_of_same (CZ.out _)))
  go_wp2_with fail
  refine (CS.out _ ((K1.out.alloc _).drewN)).mono ?_
  rintro e u2 ⟨rfl, k2⟩
  have K2 := hid (((K1.out.alloc _).drewN).trans k2)
  clear k2
  go_wp2
  exact ⟨rfl, rfl, K2.out⟩
theorem pread_any (z : List Int) (a : Option Addr) (cap : Nat) (w : World) (lay : Lay7 w) (row : Row w a z) (lc : z.length ≤ cap) (cm : cap ≤ maxLen) :
    Calls Tryd.prog 19 #[.slice a z.length cap] w fun e w' => ((parseE z = 0 ∧ e = .returned (hdV (parseH z))) ∨ (parseE z ≠ 0 ∧ e = .panicked (pan (parseE z)))) ∧ Kept w w' := by
  by_cases h1 : z.length < 336
  · have E : parseE z = 2 := by unfold parseE; rw [if_pos h1]
    exact (pread_short z a cap w h1).mono fun e w' ⟨he, hk⟩ => ⟨.inr ⟨by rw [E]; decide, by rw [E]; exact he⟩, hk⟩
  by_cases h2 : kindOk (z.getD 327 0) = false
  · have E : parseE z = 4 := by unfold parseE; rw [if_neg h1, if_pos h2]
    exact (pread_kind z a cap w lay row lc cm (by omega) h2).mono fun e w' ⟨he, hk⟩ => ⟨.inr ⟨by rw [E]; decide, by rw [E]; exact he⟩, hk⟩
  by_cases h3 : sizeBad (z.getD 328 0) (z.getD 329 0) (z.length : Int)
  · have E : parseE z = 5 := by unfold parseE; rw [if_neg h1, if_neg h2, if_pos (show _ ∨ _ ∨ _ from h3)]
    exact (pread_size z a cap w lay row lc cm (by omega) (by simpa using h2) h3).mono fun e w' ⟨he, hk⟩ => ⟨.inr ⟨by rw [E]; decide, by rw [E]; exact he⟩, hk⟩
  by_cases h4 : sumOf z ≠ z.getD 333 0
  · have E : parseE z = 3 := by unfold parseE; rw [if_neg h1, if_neg h2, if_neg (show ¬ (_ ∨ _ ∨ _) from h3), if_pos h4]
    exact (pread_sum z a cap w lay row lc cm (by omega) (by simpa using h2) h3 h4).mono fun e w' ⟨he, hk⟩ => ⟨.inr ⟨by rw [E]; decide, by rw [E]; exact he⟩, hk⟩
  · have E : parseE z = 0 := by unfold parseE; rw [if_neg h1, if_neg h2, if_neg (show ¬ (_ ∨ _ ∨ _) from h3), if_neg h4]
    exact (pread_ok z a cap w lay row lc cm E).mono fun e w' ⟨he, hk⟩ => ⟨.inl ⟨E, he⟩, hk⟩
end Go.Proofs.YtfmehkaojfjdjaaDoor
