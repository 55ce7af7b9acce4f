/- Layer 15: LcdOnce, as a walk. -/
import Derived.Test.YtpgdkoiinigepabSw15
import Derived.Test.YtpgdkoiinigepabLf15
namespace Go.Proofs.Ytpgdkoiinigepab
open Go.RowKit
set_option linter.unusedVariables false
set_option linter.unusedSimpArgs false

/-- What a round is about: the picture's numbers fit, and High is the line of all sources. -/
def OnceR (l : Lc) : Prop := LcIn l ∧ l.high = srcL l
theorem once_step (l : Lc) (x : Int) (h : OnceR l) (o : l.on = true) (s wb : Bool) (hw : srcL l = wb) (hs : srcL (stepL l x) = s) (x0 : 0 ≤ x) (x1 : x ≤ 65535) (u : World) : Calls Try.prog 6 #[lcV l, .int .u16 x] u fun e w' => (∃ (V : Lc) (f d : Bool), e = .returned (.tuple #[lcV ⟨true, V.line, V.dot, V.lyc, V.sel, s, V.extra⟩, evV f (s && !wb) d]) ∧ (OnceR ⟨true, V.line, V.dot, V.lyc, V.sel, s, V.extra⟩ ∧ srcL ⟨true, V.line, V.dot, V.lyc, V.sel, s, V.extra⟩ = s)) ∧ Kept u w' := by
  refine (pstep15 l x u h.1 x0 x1).mono ?_
  rintro e w' ⟨rfl, k⟩
  obtain ⟨e1, e2⟩ := once_on l x o
  have e3 : (stepL l x).on = true := (step_on l x).trans o
  have i := step_in h.1 x x0
  rw [e2, h.2, hw, hs]
  rw [hs] at e1
  obtain ⟨V, hV⟩ : ∃ V, stepL l x = V := ⟨_, rfl⟩
  rw [hV] at e1 e3 i hs ⊢
  have e4 : ⟨true, V.line, V.dot, V.lyc, V.sel, s, V.extra⟩ = V := by obtain ⟨_, _, _, _, _, _, _⟩ := V; simp only at e1 e3; subst e1 e3; rfl
  exact ⟨⟨V, _, _, by rw [e4], by rw [e4]; exact ⟨i, e1.trans hs.symm⟩, by rw [e4]; exact hs⟩, k⟩
theorem once_src (l : Lc) (s : Bool) (h : OnceR l) (hs : srcL l = s) (u : World) : Calls Try.prog 8 #[lcV l] u fun e w' => e = .returned (.bool s) ∧ Kept u w' := by
  have k := psrc15 l u h.1
  rw [hs] at k
  exact k
theorem once_still (l : Lc) (x : Int) (h : OnceR l) (o : l.on = false) (x0 : 0 ≤ x) (x1 : x ≤ 65535) (u : World) : Calls Try.prog 6 #[lcV l, .int .u16 x] u fun e w' => e = .returned (.tuple #[lcV l, evV false false false]) ∧ Kept u w' := by
  have k := pstep15 l x u h.1 x0 x1
  obtain ⟨e1, e2, e3, e4⟩ := once_off l x o
  rw [e1, e2, e3, e4] at k
  exact k
set_option maxRecDepth 100000 in
set_option maxHeartbeats 4000000 in
theorem once15 (l : Lc) (n x : Int) (w : World) (I : LcIn l) (m0 : 0 ≤ n) (m1 : n ≤ 65535) (x0 : 0 ≤ x) (x1 : x ≤ 65535) : Calls Try.prog 4 #[lcV l, .int .u16 n, .int .u16 x] w fun e w' => e = .returned (.bool true) ∧ Kept w w' := by
  have S := hid kshown15
  have HS0 := hid (fun u => psrc15 l u I)
  have R0 := hid (show OnceR (setL l) from ⟨set_in I, rfl⟩)
  unfold setL at R0
  generalize srcL l = s0 at *
  obtain ⟨so, sl, sd, sy, ss, sh, se⟩ := l
  try simp only at HS0 R0
  clear I
  have lel : w.heap.size ≤ w.heap.size := Nat.le_refl _
  obtain ⟨N, hN⟩ : ∃ N : Nat, n % 3000 = (N : Int) := ⟨(n % 3000).toNat, by omega⟩
  have N1 : N < 3000 := by omega
  have e1 : Int.tmod n 3000 = (N : Int) := by rw [Int.tmod_eq_emod_of_nonneg m0]; exact hN
  have e2 : IntKind.u16.wrap (N : Int) = (N : Int) := by rw [IntKind.wrap_u16]; omega
  clear hN
  have Bl_0 : Blk (w.alloc (.cells ([.bool so, .int .u8 sl, .int .u16 sd, .int .u8 sy, .int .u8 ss, .bool sh, .int .u16 se] : List Value).toArray 25)) w.heap.size 25 [.bool so, .int .u8 sl, .int .u16 sd, .int .u8 sy, .int .u8 ss, .bool sh, .int .u16 se] := blk_new w _ _
  have cl_0 := True.intro
  have zl_0 := True.intro
  go_enter Try.func4, Try.ntmps4
  go_wp2_with fail
  refine (S.out _).mono ?_
  rintro e u1 ⟨rfl, k1⟩
  have Bl_1 := blk_kept k1 Bl_0
  have K_1 := hid (((Kept.refl w).alloc (.cells ([.bool so, .int .u8 sl, .int .u16 sd, .int .u8 sy, .int .u8 ss, .bool sh, .int .u16 se] : List Value).toArray 25)).trans k1)
  clear k1 Bl_0 cl_0 zl_0
  have cl_1 := blk_cell Bl_1
  have zl_1 := blk_lt Bl_1
  go_wp2_with fail
  refine (HS0.out _).mono ?_
  rintro e u2 ⟨rfl, k2⟩
  have Bl_2 := blk_kept k2 Bl_1
  have K_2 := hid (K_1.out.trans k2)
  clear k2 K_1 Bl_1 cl_1 zl_1
  have cl_2 := blk_cell Bl_2
  have zl_2 := blk_lt Bl_2
  go_wp2_with (first
    | ((with_reducible refine at_st 4 ?_); refine wl_store rfl rfl rfl rfl Bl_2 (by kernel_rfl) rfl (Nat.le_of_ble_eq_true rfl) (fun v3 p3 => ?_); have Bl_3 : Blk v3 w.heap.size 25 [.bool so, .int .u8 sl, .int .u16 sd, .int .u8 sy, .int .u8 ss, .bool s0, .int .u16 se] := p3.blk; have K_3 := hid (p3.kept _ K_2.out lel); clear p3 K_2 Bl_2 cl_2 zl_2; have cl_3 := blk_cell Bl_3; have zl_3 := blk_lt Bl_3))
  have BL := hid Bl_3
  clear Bl_3 cl_3 zl_3
  go_loopw [8] (fun iv wr => ∃ (j : Nat) (l : Lc), j ≤ N ∧ iv = .int .u16 (j : Int) ∧ Hid (OnceR l) ∧ Blk wr w.heap.size 25 [.bool l.on, .int .u8 l.line, .int .u16 l.dot, .int .u8 l.lyc, .int .u8 l.sel, .bool l.high, .int .u16 l.extra] ∧ Kept w wr) (fun iv _ => N - (intOf iv).toNat)
  case atStart => exact ⟨0, ⟨so, sl, sd, sy, ss, s0, se⟩, Nat.zero_le _, rfl, R0, BL.out, K_3.out⟩
  case round =>
    obtain ⟨j, l, hj, rfl, hR, hq, hk⟩ := hrel
    have K_0 := hid hk
    clear hk BL K_3 R0 HS0
    by_cases hlt : j < N
    · have g1 : decide ((j : Int) < (N : Int)) = true := decide_eq_true (by omega)
      have g2 : decide (j < N) = true := decide_eq_true hlt
      have g3 : IntKind.u16.wrap ((j : Int) + 1) = (j : Int) + 1 := by rw [IntKind.wrap_u16]; omega
      obtain ⟨so, sl, sd, sy, ss, sh, se⟩ := l
      simp only at hq
      have hh : sh = srcL ⟨so, sl, sd, sy, ss, sh, se⟩ := hR.out.2
      cases so
      · have hw : srcL ⟨false, sl, sd, sy, ss, sh, se⟩ = false := rfl
        rw [hw] at hh
        subst hh
        have Bl_0 := hq
        have cl_0 := blk_cell hq
        have zl_0 := blk_lt hq
        clear hq
        have HS := hid (fun u => once_src _ false hR.out hw u)
        have AX := hid (fun u => once_still _ x hR.out rfl x0 x1 u)
        have HT := HS
        clear hw
        go_wp2_with fail
        refine (HS.out _).mono ?_
        rintro e u1 ⟨rfl, k1⟩
        have Bl_1 := blk_kept k1 Bl_0
        have K_1 := hid (K_0.out.trans k1)
        clear k1 Bl_0 cl_0 zl_0
        have cl_1 := blk_cell Bl_1
        have zl_1 := blk_lt Bl_1
        go_wp2_with fail
        refine (AX.out _).mono ?_
        rintro e u2 ⟨rfl, k2⟩
        have Bl_2 := blk_kept k2 Bl_1
        have K_2 := hid (K_1.out.trans k2)
        clear k2 K_1 Bl_1 cl_1 zl_1
        have cl_2 := blk_cell Bl_2
        have zl_2 := blk_lt Bl_2
        have Bl_3 := blk_past (blk_past Bl_2 (.cells ([.bool false, .int .u8 0, .int .u16 0, .int .u8 0, .int .u8 0, .bool false, .int .u16 0] : List Value).toArray 25)) (.cells ([.bool false, .bool false, .bool false] : List Value).toArray 28)
        have Bm_3 : Blk ((u2.alloc (.cells ([.bool false, .int .u8 0, .int .u16 0, .int .u8 0, .int .u8 0, .bool false, .int .u16 0] : List Value).toArray 25)).alloc (.cells ([.bool false, .bool false, .bool false] : List Value).toArray 28)) u2.heap.size 25 [.bool false, .int .u8 0, .int .u16 0, .int .u8 0, .int .u8 0, .bool false, .int .u16 0] := blk_past (blk_new u2 _ _) _
        have Be_3 : Blk ((u2.alloc (.cells ([.bool false, .int .u8 0, .int .u16 0, .int .u8 0, .int .u8 0, .bool false, .int .u16 0] : List Value).toArray 25)).alloc (.cells ([.bool false, .bool false, .bool false] : List Value).toArray 28)) (u2.heap.size + 1) 28 [.bool false, .bool false, .bool false] := by have q := blk_new (u2.alloc (.cells ([.bool false, .int .u8 0, .int .u16 0, .int .u8 0, .int .u8 0, .bool false, .int .u16 0] : List Value).toArray 25)) [.bool false, .bool false, .bool false] 28; rw [World.size_alloc] at q; exact q
        have K_3 := hid ((K_2.out.alloc (.cells ([.bool false, .int .u8 0, .int .u16 0, .int .u8 0, .int .u8 0, .bool false, .int .u16 0] : List Value).toArray 25)).alloc (.cells ([.bool false, .bool false, .bool false] : List Value).toArray 28))
        have nlm : w.heap.size ≠ u2.heap.size := by omega
        have nml : u2.heap.size ≠ w.heap.size := by omega
        have nle : w.heap.size ≠ u2.heap.size + 1 := by omega
        have nel : u2.heap.size + 1 ≠ w.heap.size := by omega
        have nme : u2.heap.size ≠ u2.heap.size + 1 := by omega
        have nem : u2.heap.size + 1 ≠ u2.heap.size := by omega
        have lem : w.heap.size ≤ u2.heap.size := K_2.out.size
        have lee : w.heap.size ≤ u2.heap.size + 1 := by omega
        clear K_2 Bl_2 cl_2 zl_2
        go_wp2_with (first
          | ((with_reducible refine at_st 25 ?_); refine wl_store rfl rfl rfl rfl Bm_3 (by kernel_rfl) rfl (Nat.le_of_ble_eq_true rfl) (fun v4 p4 => ?_); have Bm_4 : Blk v4 u2.heap.size 25 [.bool false, .int .u8 sl, .int .u16 sd, .int .u8 sy, .int .u8 ss, .bool false, .int .u16 se] := p4.blk; have Bl_4 := p4.other _ _ _ nlm Bl_3; have Be_4 := p4.other _ _ _ nem Be_3; have K_4 := hid (p4.kept _ K_3.out lem); clear p4 K_3 Bl_3 Bm_3 Be_3; have cl_4 := blk_cell Bl_4; have zl_4 := blk_lt Bl_4; have cm_4 := blk_cell Bm_4; have zm_4 := blk_lt Bm_4; have ce_4 := blk_cell Be_4; have ze_4 := blk_lt Be_4)
          | ((with_reducible refine at_st 28 ?_); refine wl_store rfl rfl rfl rfl Be_4 (by kernel_rfl) rfl (Nat.le_of_ble_eq_true rfl) (fun v5 p5 => ?_); have Be_5 : Blk v5 (u2.heap.size + 1) 28 [.bool false, .bool false, .bool false] := p5.blk; have Bl_5 := p5.other _ _ _ nle Bl_4; have Bm_5 := p5.other _ _ _ nme Bm_4; have K_5 := hid (p5.kept _ K_4.out lee); clear p5 K_4 Bl_4 cl_4 zl_4 Bm_4 cm_4 zm_4 Be_4 ce_4 ze_4; have cl_5 := blk_cell Bl_5; have zl_5 := blk_lt Bl_5; have cm_5 := blk_cell Bm_5; have zm_5 := blk_lt Bm_5; have ce_5 := blk_cell Be_5; have ze_5 := blk_lt Be_5))
        refine wp_region_held_drew (S := (fun w' => w'.cell? ⟨u2.heap.size, 0, none⟩ = some (.bool false) ∧ w'.cell? ⟨u2.heap.size, 1, none⟩ = some (.int .u8 sl) ∧ w'.cell? ⟨u2.heap.size, 2, none⟩ = some (.int .u16 sd) ∧ w'.cell? ⟨u2.heap.size, 3, none⟩ = some (.int .u8 sy) ∧ w'.cell? ⟨u2.heap.size, 4, none⟩ = some (.int .u8 ss) ∧ w'.cell? ⟨u2.heap.size, 5, none⟩ = some (.bool false) ∧ w'.cell? ⟨u2.heap.size, 6, none⟩ = some (.int .u16 se) ∧ w'.cell? ⟨u2.heap.size + 1, 0, none⟩ = some (.bool false) ∧ w'.cell? ⟨u2.heap.size + 1, 1, none⟩ = some (.bool false) ∧ w'.cell? ⟨u2.heap.size + 1, 2, none⟩ = some (.bool false) ∧ w'.cell? ⟨w.heap.size, 0, none⟩ = some (.bool false) ∧ w'.cell? ⟨w.heap.size, 1, none⟩ = some (.int .u8 sl) ∧ w'.cell? ⟨w.heap.size, 2, none⟩ = some (.int .u16 sd) ∧ w'.cell? ⟨w.heap.size, 3, none⟩ = some (.int .u8 sy) ∧ w'.cell? ⟨w.heap.size, 4, none⟩ = some (.int .u8 ss) ∧ w'.cell? ⟨w.heap.size, 5, none⟩ = some (.bool false) ∧ w'.cell? ⟨w.heap.size, 6, none⟩ = some (.int .u16 se))) (by kernel_rfl) (by go_keep) (fun hHeld => ?_)
        refine wpAnyH_take (i := 0) (v := ?_) rfl (by kernel_rfl) (by kernel_rfl) (by kernel_rfl) (fun _ _ _ h => h) (Or.inl ⟨by rfl, ?_⟩) (by assumption) ?_
        rotate_left
        · intro w hSw
          (try dsimp only at hSw)
          go_simp
          try with_reducible rfl
        simp only [Act.put, List.getElem_toArray, List.getElem_cons_succ, List.getElem_cons_zero, List.setIfInBounds_toArray, List.set_cons_zero, List.set_cons_succ]
        refine wpAnyH_take (i := 1) (v := ?_) rfl (by kernel_rfl) (by kernel_rfl) (by kernel_rfl) (fun _ _ _ h => h) (Or.inl ⟨by rfl, ?_⟩) (by assumption) ?_
        rotate_left
        · intro w hSw
          (try dsimp only at hSw)
          go_simp
          try with_reducible rfl
        simp only [Act.put, List.getElem_toArray, List.getElem_cons_succ, List.getElem_cons_zero, List.setIfInBounds_toArray, List.set_cons_zero, List.set_cons_succ]
        refine wpAnyH_take (i := 2) (v := ?_) rfl (by kernel_rfl) (by kernel_rfl) (by kernel_rfl) (fun _ _ _ h => h) (Or.inl ⟨by rfl, ?_⟩) (by assumption) ?_
        rotate_left
        · intro w hSw
          (try dsimp only at hSw)
          go_simp
          try with_reducible rfl
        simp only [Act.put, List.getElem_toArray, List.getElem_cons_succ, List.getElem_cons_zero, List.setIfInBounds_toArray, List.set_cons_zero, List.set_cons_succ]
        refine wpAnyH_ready (rs := [3]) (by kernel_rfl) (by simp) ?_
        refine AllReadyH.cons rfl (fun K hK => ?_) AllReadyH.nil
        go_simp
        refine (HT.out _).mono ?_
        rintro e y1 ⟨rfl, q1⟩
        have Bl_y1 := blk_kept q1 (blk_drew Bl_5)
        have Bm_y1 := blk_kept q1 (blk_drew Bm_5)
        have Be_y1 := blk_kept q1 (blk_drew Be_5)
        have cl_y1 := blk_cell Bl_y1
        have cm_y1 := blk_cell Bm_y1
        have ce_y1 := blk_cell Be_y1
        have K_y1 := hid (K_5.out.drew.trans q1)
        clear q1
        refine hK.out _ _ (by go_keep) (fun hHeld => ?_)
        clear hK K
        try simp only [Act.put, List.getElem_toArray, List.getElem_cons_succ, List.getElem_cons_zero, List.setIfInBounds_toArray, List.set_cons_zero, List.set_cons_succ]
        refine wpAnyH_take (i := 4) (v := ?_) rfl (by kernel_rfl) (by kernel_rfl) (by kernel_rfl) (fun _ _ _ h => h) (Or.inl ⟨by rfl, ?_⟩) (by assumption) ?_
        rotate_left
        · intro w hSw
          (try dsimp only at hSw)
          go_simp
          try with_reducible rfl
        simp only [Act.put, List.getElem_toArray, List.getElem_cons_succ, List.getElem_cons_zero, List.setIfInBounds_toArray, List.set_cons_zero, List.set_cons_succ]
        refine wpAnyH_take (i := 5) (v := undef) rfl (by kernel_rfl) (by kernel_rfl) (by kernel_rfl) (fun _ _ _ h => h) (Or.inr ⟨by rfl, rfl⟩) (by assumption) ?_
        simp only [Act.put, List.getElem_toArray, List.getElem_cons_succ, List.getElem_cons_zero, List.setIfInBounds_toArray, List.set_cons_zero, List.set_cons_succ]
        refine wpAnyH_take (i := 6) (v := undef) rfl (by kernel_rfl) (by kernel_rfl) (by kernel_rfl) (fun _ _ _ h => h) (Or.inr ⟨by rfl, rfl⟩) (by assumption) ?_
        simp only [Act.put, List.getElem_toArray, List.getElem_cons_succ, List.getElem_cons_zero, List.setIfInBounds_toArray, List.set_cons_zero, List.set_cons_succ]
        refine wpAnyH_take (i := 7) (v := ?_) rfl (by kernel_rfl) (by kernel_rfl) (by kernel_rfl) (fun _ _ _ h => h) (Or.inl ⟨by rfl, ?_⟩) (by assumption) ?_
        rotate_left
        · intro w hSw
          (try dsimp only at hSw)
          go_simp
          try with_reducible rfl
        simp only [Act.put, List.getElem_toArray, List.getElem_cons_succ, List.getElem_cons_zero, List.setIfInBounds_toArray, List.set_cons_zero, List.set_cons_succ]
        refine wpAnyH_take (i := 8) (v := ?_) rfl (by kernel_rfl) (by kernel_rfl) (by kernel_rfl) (fun _ _ _ h => h) (Or.inl ⟨by rfl, ?_⟩) (by assumption) ?_
        rotate_left
        · intro w hSw
          (try dsimp only at hSw)
          go_simp
          try with_reducible rfl
        simp only [Act.put, List.getElem_toArray, List.getElem_cons_succ, List.getElem_cons_zero, List.setIfInBounds_toArray, List.set_cons_zero, List.set_cons_succ]
        refine wpAnyH_take (i := 9) (v := ?_) rfl (by kernel_rfl) (by kernel_rfl) (by kernel_rfl) (fun _ _ _ h => h) (Or.inl ⟨by rfl, ?_⟩) (by assumption) ?_
        rotate_left
        · intro w hSw
          (try dsimp only at hSw)
          go_simp
          try with_reducible rfl
        simp only [Act.put, List.getElem_toArray, List.getElem_cons_succ, List.getElem_cons_zero, List.setIfInBounds_toArray, List.set_cons_zero, List.set_cons_succ]
        refine wpAnyH_take (i := 10) (v := ?_) rfl (by kernel_rfl) (by kernel_rfl) (by kernel_rfl) (fun _ _ _ h => h) (Or.inl ⟨by rfl, ?_⟩) (by assumption) ?_
        rotate_left
        · intro w hSw
          (try dsimp only at hSw)
          go_simp
          try with_reducible rfl
        simp only [Act.put, List.getElem_toArray, List.getElem_cons_succ, List.getElem_cons_zero, List.setIfInBounds_toArray, List.set_cons_zero, List.set_cons_succ]
        refine wpAnyH_take (i := 11) (v := ?_) rfl (by kernel_rfl) (by kernel_rfl) (by kernel_rfl) (fun _ _ _ h => h) (Or.inl ⟨by rfl, ?_⟩) (by assumption) ?_
        rotate_left
        · intro w hSw
          (try dsimp only at hSw)
          go_simp
          try with_reducible rfl
        simp only [Act.put, List.getElem_toArray, List.getElem_cons_succ, List.getElem_cons_zero, List.setIfInBounds_toArray, List.set_cons_zero, List.set_cons_succ]
        refine wpAnyH_take (i := 12) (v := ?_) rfl (by kernel_rfl) (by kernel_rfl) (by kernel_rfl) (fun _ _ _ h => h) (Or.inl ⟨by rfl, ?_⟩) (by assumption) ?_
        rotate_left
        · intro w hSw
          (try dsimp only at hSw)
          go_simp
          try with_reducible rfl
        simp only [Act.put, List.getElem_toArray, List.getElem_cons_succ, List.getElem_cons_zero, List.setIfInBounds_toArray, List.set_cons_zero, List.set_cons_succ]
        refine wpAnyH_ready (rs := [13]) (by kernel_rfl) (by simp) ?_
        refine AllReadyH.cons rfl (fun K hK => ?_) AllReadyH.nil
        go_simp
        refine (HT.out _).mono ?_
        rintro e y2 ⟨rfl, q2⟩
        have Bl_y2 := blk_kept q2 Bl_y1
        have Bm_y2 := blk_kept q2 Bm_y1
        have Be_y2 := blk_kept q2 Be_y1
        have cl_y2 := blk_cell Bl_y2
        have cm_y2 := blk_cell Bm_y2
        have ce_y2 := blk_cell Be_y2
        have K_y2 := hid (K_y1.out.trans q2)
        clear q2
        refine hK.out _ _ (by go_keep) (fun hHeld => ?_)
        clear hK K
        try simp only [Act.put, List.getElem_toArray, List.getElem_cons_succ, List.getElem_cons_zero, List.setIfInBounds_toArray, List.set_cons_zero, List.set_cons_succ]
        refine wpAnyH_take (i := 14) (v := ?_) rfl (by kernel_rfl) (by kernel_rfl) (by kernel_rfl) (fun _ _ _ h => h) (Or.inl ⟨by rfl, ?_⟩) (by assumption) ?_
        rotate_left
        · intro w hSw
          (try dsimp only at hSw)
          go_simp
          try with_reducible rfl
        simp only [Act.put, List.getElem_toArray, List.getElem_cons_succ, List.getElem_cons_zero, List.setIfInBounds_toArray, List.set_cons_zero, List.set_cons_succ]
        refine wpAnyH_take (i := 15) (v := ?_) rfl (by kernel_rfl) (by kernel_rfl) (by kernel_rfl) (fun _ _ _ h => h) (Or.inl ⟨by rfl, ?_⟩) (by assumption) ?_
        rotate_left
        · intro w hSw
          (try dsimp only at hSw)
          go_simp
          try with_reducible rfl
        simp only [Act.put, List.getElem_toArray, List.getElem_cons_succ, List.getElem_cons_zero, List.setIfInBounds_toArray, List.set_cons_zero, List.set_cons_succ]
        refine wpAnyH_take (i := 16) (v := ?_) rfl (by kernel_rfl) (by kernel_rfl) (by kernel_rfl) (fun _ _ _ h => h) (Or.inl ⟨by rfl, ?_⟩) (by assumption) ?_
        rotate_left
        · intro w hSw
          (try dsimp only at hSw)
          go_simp
          try with_reducible rfl
        simp only [Act.put, List.getElem_toArray, List.getElem_cons_succ, List.getElem_cons_zero, List.setIfInBounds_toArray, List.set_cons_zero, List.set_cons_succ]
        refine wpAnyH_take (i := 17) (v := ?_) rfl (by kernel_rfl) (by kernel_rfl) (by kernel_rfl) (fun _ _ _ h => h) (Or.inl ⟨by rfl, ?_⟩) (by assumption) ?_
        rotate_left
        · intro w hSw
          (try dsimp only at hSw)
          go_simp
          try with_reducible rfl
        simp only [Act.put, List.getElem_toArray, List.getElem_cons_succ, List.getElem_cons_zero, List.setIfInBounds_toArray, List.set_cons_zero, List.set_cons_succ]
        refine wpAnyH_take (i := 18) (v := ?_) rfl (by kernel_rfl) (by kernel_rfl) (by kernel_rfl) (fun _ _ _ h => h) (Or.inl ⟨by rfl, ?_⟩) (by assumption) ?_
        rotate_left
        · intro w hSw
          (try dsimp only at hSw)
          go_simp
          try with_reducible rfl
        simp only [Act.put, List.getElem_toArray, List.getElem_cons_succ, List.getElem_cons_zero, List.setIfInBounds_toArray, List.set_cons_zero, List.set_cons_succ]
        refine wpAnyH_take (i := 19) (v := ?_) rfl (by kernel_rfl) (by kernel_rfl) (by kernel_rfl) (fun _ _ _ h => h) (Or.inl ⟨by rfl, ?_⟩) (by assumption) ?_
        rotate_left
        · intro w hSw
          (try dsimp only at hSw)
          go_simp
          try with_reducible rfl
        simp only [Act.put, List.getElem_toArray, List.getElem_cons_succ, List.getElem_cons_zero, List.setIfInBounds_toArray, List.set_cons_zero, List.set_cons_succ]
        refine wpAnyH_take (i := 20) (v := ?_) rfl (by kernel_rfl) (by kernel_rfl) (by kernel_rfl) (fun _ _ _ h => h) (Or.inl ⟨by rfl, ?_⟩) (by assumption) ?_
        rotate_left
        · intro w hSw
          (try dsimp only at hSw)
          go_simp
          try with_reducible rfl
        simp only [Act.put, List.getElem_toArray, List.getElem_cons_succ, List.getElem_cons_zero, List.setIfInBounds_toArray, List.set_cons_zero, List.set_cons_succ]
        refine wpAnyH_take (i := 21) (v := ?_) rfl (by kernel_rfl) (by kernel_rfl) (by kernel_rfl) (fun _ _ _ h => h) (Or.inl ⟨by rfl, ?_⟩) (by assumption) ?_
        rotate_left
        · intro w hSw
          (try dsimp only at hSw)
          go_simp
          try with_reducible rfl
        simp only [Act.put, List.getElem_toArray, List.getElem_cons_succ, List.getElem_cons_zero, List.setIfInBounds_toArray, List.set_cons_zero, List.set_cons_succ]
        refine wpAnyH_take (i := 22) (v := ?_) rfl (by kernel_rfl) (by kernel_rfl) (by kernel_rfl) (fun _ _ _ h => h) (Or.inl ⟨by rfl, ?_⟩) (by assumption) ?_
        rotate_left
        · intro w hSw
          (try dsimp only at hSw)
          go_simp
          try with_reducible rfl
        simp only [Act.put, List.getElem_toArray, List.getElem_cons_succ, List.getElem_cons_zero, List.setIfInBounds_toArray, List.set_cons_zero, List.set_cons_succ]
        refine wpAnyH_take (i := 23) (v := ?_) rfl (by kernel_rfl) (by kernel_rfl) (by kernel_rfl) (fun _ _ _ h => h) (Or.inl ⟨by rfl, ?_⟩) (by assumption) ?_
        rotate_left
        · intro w hSw
          (try dsimp only at hSw)
          go_simp
          try with_reducible rfl
        simp only [Act.put, List.getElem_toArray, List.getElem_cons_succ, List.getElem_cons_zero, List.setIfInBounds_toArray, List.set_cons_zero, List.set_cons_succ]
        refine wpAnyH_take (i := 24) (v := ?_) rfl (by kernel_rfl) (by kernel_rfl) (by kernel_rfl) (fun _ _ _ h => h) (Or.inl ⟨by rfl, ?_⟩) (by assumption) ?_
        rotate_left
        · intro w hSw
          (try dsimp only at hSw)
          go_simp
          try with_reducible rfl
        simp only [Act.put, List.getElem_toArray, List.getElem_cons_succ, List.getElem_cons_zero, List.setIfInBounds_toArray, List.set_cons_zero, List.set_cons_succ]
        refine wpAnyH_take (i := 25) (v := ?_) rfl (by kernel_rfl) (by kernel_rfl) (by kernel_rfl) (fun _ _ _ h => h) (Or.inl ⟨by rfl, ?_⟩) (by assumption) ?_
        rotate_left
        · intro w hSw
          (try dsimp only at hSw)
          go_simp
          try with_reducible rfl
        simp only [Act.put, List.getElem_toArray, List.getElem_cons_succ, List.getElem_cons_zero, List.setIfInBounds_toArray, List.set_cons_zero, List.set_cons_succ]
        refine wpAnyH_take (i := 26) (v := ?_) rfl (by kernel_rfl) (by kernel_rfl) (by kernel_rfl) (fun _ _ _ h => h) (Or.inl ⟨by rfl, ?_⟩) (by assumption) ?_
        rotate_left
        · intro w hSw
          (try dsimp only at hSw)
          go_simp
          try with_reducible rfl
        simp only [Act.put, List.getElem_toArray, List.getElem_cons_succ, List.getElem_cons_zero, List.setIfInBounds_toArray, List.set_cons_zero, List.set_cons_succ]
        refine wpAnyH_take (i := 27) (v := ?_) rfl (by kernel_rfl) (by kernel_rfl) (by kernel_rfl) (fun _ _ _ h => h) (Or.inl ⟨by rfl, ?_⟩) (by assumption) ?_
        rotate_left
        · intro w hSw
          (try dsimp only at hSw)
          go_simp
          try with_reducible rfl
        simp only [Act.put, List.getElem_toArray, List.getElem_cons_succ, List.getElem_cons_zero, List.setIfInBounds_toArray, List.set_cons_zero, List.set_cons_succ]
        refine wpAnyH_take (i := 28) (v := ?_) rfl (by kernel_rfl) (by kernel_rfl) (by kernel_rfl) (fun _ _ _ h => h) (Or.inl ⟨by rfl, ?_⟩) (by assumption) ?_
        rotate_left
        · intro w hSw
          (try dsimp only at hSw)
          go_simp
          try with_reducible rfl
        simp only [Act.put, List.getElem_toArray, List.getElem_cons_succ, List.getElem_cons_zero, List.setIfInBounds_toArray, List.set_cons_zero, List.set_cons_succ]
        refine wpAnyH_take (i := 29) (v := ?_) rfl (by kernel_rfl) (by kernel_rfl) (by kernel_rfl) (fun _ _ _ h => h) (Or.inl ⟨by rfl, ?_⟩) (by assumption) ?_
        rotate_left
        · intro w hSw
          (try dsimp only at hSw)
          go_simp
          try with_reducible rfl
        simp only [Act.put, List.getElem_toArray, List.getElem_cons_succ, List.getElem_cons_zero, List.setIfInBounds_toArray, List.set_cons_zero, List.set_cons_succ]
        refine wpAnyH_take (i := 30) (v := ?_) rfl (by kernel_rfl) (by kernel_rfl) (by kernel_rfl) (fun _ _ _ h => h) (Or.inl ⟨by rfl, ?_⟩) (by assumption) ?_
        rotate_left
        · intro w hSw
          (try dsimp only at hSw)
          go_simp
          try with_reducible rfl
        simp only [Act.put, List.getElem_toArray, List.getElem_cons_succ, List.getElem_cons_zero, List.setIfInBounds_toArray, List.set_cons_zero, List.set_cons_succ]
        refine wpAnyH_done (by kernel_rfl) ?_ _
        have Bl_6 := Bl_y2
        have Bm_6 := Bm_y2
        have Be_6 := Be_y2
        have K_6 := K_y2
        clear Bl_y1 cl_y1 Bl_y2 cl_y2 Bm_y1 cm_y1 Bm_y2 cm_y2 Be_y1 ce_y1 Be_y2 ce_y2 K_y1 K_y2 hHeld Bl_5 cl_5 zl_5 Bm_5 cm_5 zm_5 Be_5 ce_5 ze_5 K_5
        have cl_6 := blk_cell Bl_6
        have zl_6 := blk_lt Bl_6
        have cm_6 := blk_cell Bm_6
        have zm_6 := blk_lt Bm_6
        have ce_6 := blk_cell Be_6
        have ze_6 := blk_lt Be_6
        go_wp2_with (first
          | ((with_reducible refine at_st 25 ?_); refine wl_store rfl rfl rfl rfl Bl_6 (by kernel_rfl) rfl (Nat.le_of_ble_eq_true rfl) (fun v7 p7 => ?_); have Bl_7 : Blk v7 w.heap.size 25 [.bool false, .int .u8 sl, .int .u16 sd, .int .u8 sy, .int .u8 ss, .bool false, .int .u16 se] := p7.blk; have Bm_7 := p7.other _ _ _ nml Bm_6; have Be_7 := p7.other _ _ _ nel Be_6; have K_7 := hid (p7.kept _ K_6.out lel); clear p7 K_6 Bl_6 cl_6 zl_6 Bm_6 cm_6 zm_6 Be_6 ce_6 ze_6; have cl_7 := blk_cell Bl_7; have zl_7 := blk_lt Bl_7; have cm_7 := blk_cell Bm_7; have zm_7 := blk_lt Bm_7; have ce_7 := blk_cell Be_7; have ze_7 := blk_lt Be_7))
        go_roundw
        case rel => exact ⟨j + 1, ⟨false, sl, sd, sy, ss, false, se⟩, by omega, by first | go_num | rfl, hR, Bl_7, K_7.out⟩
        case measure => first | omega | (simp; omega) | (simp [intOf]; omega)
      · cases hw : srcL ⟨true, sl, sd, sy, ss, sh, se⟩ <;> cases hs : srcL (stepL ⟨true, sl, sd, sy, ss, sh, se⟩ x)
        · rw [hw] at hh
          subst hh
          have Bl_0 := hq
          have cl_0 := blk_cell hq
          have zl_0 := blk_lt hq
          clear hq
          have HS := hid (fun u => once_src _ false hR.out hw u)
          have AX := hid (fun u => once_step _ x hR.out rfl false false hw hs x0 x1 u)
          clear hw hs
          go_wp2_with fail
          refine (HS.out _).mono ?_
          rintro e u1 ⟨rfl, k1⟩
          have Bl_1 := blk_kept k1 Bl_0
          have K_1 := hid (K_0.out.trans k1)
          clear k1 Bl_0 cl_0 zl_0
          have cl_1 := blk_cell Bl_1
          have zl_1 := blk_lt Bl_1
          go_wp2_with fail
          refine (AX.out _).mono ?_
          rintro e u2 ⟨⟨V, f, d, rfl, hV, hS⟩, k2⟩
          have HT := hid (fun u => once_src _ false hV hS u)
          have HV := hid hV
          clear hV hS
          have Bl_2 := blk_kept k2 Bl_1
          have K_2 := hid (K_1.out.trans k2)
          clear k2 K_1 Bl_1 cl_1 zl_1
          have cl_2 := blk_cell Bl_2
          have zl_2 := blk_lt Bl_2
          have Bl_3 := blk_past (blk_past Bl_2 (.cells ([.bool false, .int .u8 0, .int .u16 0, .int .u8 0, .int .u8 0, .bool false, .int .u16 0] : List Value).toArray 25)) (.cells ([.bool false, .bool false, .bool false] : List Value).toArray 28)
          have Bm_3 : Blk ((u2.alloc (.cells ([.bool false, .int .u8 0, .int .u16 0, .int .u8 0, .int .u8 0, .bool false, .int .u16 0] : List Value).toArray 25)).alloc (.cells ([.bool false, .bool false, .bool false] : List Value).toArray 28)) u2.heap.size 25 [.bool false, .int .u8 0, .int .u16 0, .int .u8 0, .int .u8 0, .bool false, .int .u16 0] := blk_past (blk_new u2 _ _) _
          have Be_3 : Blk ((u2.alloc (.cells ([.bool false, .int .u8 0, .int .u16 0, .int .u8 0, .int .u8 0, .bool false, .int .u16 0] : List Value).toArray 25)).alloc (.cells ([.bool false, .bool false, .bool false] : List Value).toArray 28)) (u2.heap.size + 1) 28 [.bool false, .bool false, .bool false] := by have q := blk_new (u2.alloc (.cells ([.bool false, .int .u8 0, .int .u16 0, .int .u8 0, .int .u8 0, .bool false, .int .u16 0] : List Value).toArray 25)) [.bool false, .bool false, .bool false] 28; rw [World.size_alloc] at q; exact q
          have K_3 := hid ((K_2.out.alloc (.cells ([.bool false, .int .u8 0, .int .u16 0, .int .u8 0, .int .u8 0, .bool false, .int .u16 0] : List Value).toArray 25)).alloc (.cells ([.bool false, .bool false, .bool false] : List Value).toArray 28))
          have nlm : w.heap.size ≠ u2.heap.size := by omega
          have nml : u2.heap.size ≠ w.heap.size := by omega
          have nle : w.heap.size ≠ u2.heap.size + 1 := by omega
          have nel : u2.heap.size + 1 ≠ w.heap.size := by omega
          have nme : u2.heap.size ≠ u2.heap.size + 1 := by omega
          have nem : u2.heap.size + 1 ≠ u2.heap.size := by omega
          have lem : w.heap.size ≤ u2.heap.size := K_2.out.size
          have lee : w.heap.size ≤ u2.heap.size + 1 := by omega
          clear K_2 Bl_2 cl_2 zl_2
          go_wp2_with (first
            | ((with_reducible refine at_st 25 ?_); refine wl_store rfl rfl rfl rfl Bm_3 (by kernel_rfl) rfl (Nat.le_of_ble_eq_true rfl) (fun v4 p4 => ?_); have Bm_4 : Blk v4 u2.heap.size 25 [.bool true, .int .u8 V.line, .int .u16 V.dot, .int .u8 V.lyc, .int .u8 V.sel, .bool false, .int .u16 V.extra] := p4.blk; have Bl_4 := p4.other _ _ _ nlm Bl_3; have Be_4 := p4.other _ _ _ nem Be_3; have K_4 := hid (p4.kept _ K_3.out lem); clear p4 K_3 Bl_3 Bm_3 Be_3; have cl_4 := blk_cell Bl_4; have zl_4 := blk_lt Bl_4; have cm_4 := blk_cell Bm_4; have zm_4 := blk_lt Bm_4; have ce_4 := blk_cell Be_4; have ze_4 := blk_lt Be_4)
            | ((with_reducible refine at_st 28 ?_); refine wl_store rfl rfl rfl rfl Be_4 (by kernel_rfl) rfl (Nat.le_of_ble_eq_true rfl) (fun v5 p5 => ?_); have Be_5 : Blk v5 (u2.heap.size + 1) 28 [.bool f, .bool false, .bool d] := p5.blk; have Bl_5 := p5.other _ _ _ nle Bl_4; have Bm_5 := p5.other _ _ _ nme Bm_4; have K_5 := hid (p5.kept _ K_4.out lee); clear p5 K_4 Bl_4 cl_4 zl_4 Bm_4 cm_4 zm_4 Be_4 ce_4 ze_4; have cl_5 := blk_cell Bl_5; have zl_5 := blk_lt Bl_5; have cm_5 := blk_cell Bm_5; have zm_5 := blk_lt Bm_5; have ce_5 := blk_cell Be_5; have ze_5 := blk_lt Be_5))
          refine wp_region_held_drew (S := (fun w' => w'.cell? ⟨u2.heap.size, 0, none⟩ = some (.bool true) ∧ w'.cell? ⟨u2.heap.size, 1, none⟩ = some (.int .u8 V.line) ∧ w'.cell? ⟨u2.heap.size, 2, none⟩ = some (.int .u16 V.dot) ∧ w'.cell? ⟨u2.heap.size, 3, none⟩ = some (.int .u8 V.lyc) ∧ w'.cell? ⟨u2.heap.size, 4, none⟩ = some (.int .u8 V.sel) ∧ w'.cell? ⟨u2.heap.size, 5, none⟩ = some (.bool false) ∧ w'.cell? ⟨u2.heap.size, 6, none⟩ = some (.int .u16 V.extra) ∧ w'.cell? ⟨u2.heap.size + 1, 0, none⟩ = some (.bool f) ∧ w'.cell? ⟨u2.heap.size + 1, 1, none⟩ = some (.bool false) ∧ w'.cell? ⟨u2.heap.size + 1, 2, none⟩ = some (.bool d) ∧ w'.cell? ⟨w.heap.size, 0, none⟩ = some (.bool true) ∧ w'.cell? ⟨w.heap.size, 1, none⟩ = some (.int .u8 sl) ∧ w'.cell? ⟨w.heap.size, 2, none⟩ = some (.int .u16 sd) ∧ w'.cell? ⟨w.heap.size, 3, none⟩ = some (.int .u8 sy) ∧ w'.cell? ⟨w.heap.size, 4, none⟩ = some (.int .u8 ss) ∧ w'.cell? ⟨w.heap.size, 5, none⟩ = some (.bool false) ∧ w'.cell? ⟨w.heap.size, 6, none⟩ = some (.int .u16 se))) (by kernel_rfl) (by go_keep) (fun hHeld => ?_)
          refine wpAnyH_take (i := 0) (v := ?_) rfl (by kernel_rfl) (by kernel_rfl) (by kernel_rfl) (fun _ _ _ h => h) (Or.inl ⟨by rfl, ?_⟩) (by assumption) ?_
          rotate_left
          · intro w hSw
            (try dsimp only at hSw)
            go_simp
            try with_reducible rfl
          simp only [Act.put, List.getElem_toArray, List.getElem_cons_succ, List.getElem_cons_zero, List.setIfInBounds_toArray, List.set_cons_zero, List.set_cons_succ]
          refine wpAnyH_take (i := 1) (v := ?_) rfl (by kernel_rfl) (by kernel_rfl) (by kernel_rfl) (fun _ _ _ h => h) (Or.inl ⟨by rfl, ?_⟩) (by assumption) ?_
          rotate_left
          · intro w hSw
            (try dsimp only at hSw)
            go_simp
            try with_reducible rfl
          simp only [Act.put, List.getElem_toArray, List.getElem_cons_succ, List.getElem_cons_zero, List.setIfInBounds_toArray, List.set_cons_zero, List.set_cons_succ]
          refine wpAnyH_take (i := 2) (v := ?_) rfl (by kernel_rfl) (by kernel_rfl) (by kernel_rfl) (fun _ _ _ h => h) (Or.inl ⟨by rfl, ?_⟩) (by assumption) ?_
          rotate_left
          · intro w hSw
            (try dsimp only at hSw)
            go_simp
            try with_reducible rfl
          simp only [Act.put, List.getElem_toArray, List.getElem_cons_succ, List.getElem_cons_zero, List.setIfInBounds_toArray, List.set_cons_zero, List.set_cons_succ]
          refine wpAnyH_ready (rs := [3]) (by kernel_rfl) (by simp) ?_
          refine AllReadyH.cons rfl (fun K hK => ?_) AllReadyH.nil
          go_simp
          refine (HT.out _).mono ?_
          rintro e y1 ⟨rfl, q1⟩
          have Bl_y1 := blk_kept q1 (blk_drew Bl_5)
          have Bm_y1 := blk_kept q1 (blk_drew Bm_5)
          have Be_y1 := blk_kept q1 (blk_drew Be_5)
          have cl_y1 := blk_cell Bl_y1
          have cm_y1 := blk_cell Bm_y1
          have ce_y1 := blk_cell Be_y1
          have K_y1 := hid (K_5.out.drew.trans q1)
          clear q1
          refine hK.out _ _ (by go_keep) (fun hHeld => ?_)
          clear hK K
          try simp only [Act.put, List.getElem_toArray, List.getElem_cons_succ, List.getElem_cons_zero, List.setIfInBounds_toArray, List.set_cons_zero, List.set_cons_succ]
          refine wpAnyH_take (i := 4) (v := ?_) rfl (by kernel_rfl) (by kernel_rfl) (by kernel_rfl) (fun _ _ _ h => h) (Or.inl ⟨by rfl, ?_⟩) (by assumption) ?_
          rotate_left
          · intro w hSw
            (try dsimp only at hSw)
            go_simp
            try with_reducible rfl
          simp only [Act.put, List.getElem_toArray, List.getElem_cons_succ, List.getElem_cons_zero, List.setIfInBounds_toArray, List.set_cons_zero, List.set_cons_succ]
          refine wpAnyH_take (i := 5) (v := undef) rfl (by kernel_rfl) (by kernel_rfl) (by kernel_rfl) (fun _ _ _ h => h) (Or.inr ⟨by rfl, rfl⟩) (by assumption) ?_
          simp only [Act.put, List.getElem_toArray, List.getElem_cons_succ, List.getElem_cons_zero, List.setIfInBounds_toArray, List.set_cons_zero, List.set_cons_succ]
          refine wpAnyH_take (i := 6) (v := undef) rfl (by kernel_rfl) (by kernel_rfl) (by kernel_rfl) (fun _ _ _ h => h) (Or.inr ⟨by rfl, rfl⟩) (by assumption) ?_
          simp only [Act.put, List.getElem_toArray, List.getElem_cons_succ, List.getElem_cons_zero, List.setIfInBounds_toArray, List.set_cons_zero, List.set_cons_succ]
          refine wpAnyH_take (i := 7) (v := ?_) rfl (by kernel_rfl) (by kernel_rfl) (by kernel_rfl) (fun _ _ _ h => h) (Or.inl ⟨by rfl, ?_⟩) (by assumption) ?_
          rotate_left
          · intro w hSw
            (try dsimp only at hSw)
            go_simp
            try with_reducible rfl
          simp only [Act.put, List.getElem_toArray, List.getElem_cons_succ, List.getElem_cons_zero, List.setIfInBounds_toArray, List.set_cons_zero, List.set_cons_succ]
          refine wpAnyH_take (i := 8) (v := ?_) rfl (by kernel_rfl) (by kernel_rfl) (by kernel_rfl) (fun _ _ _ h => h) (Or.inl ⟨by rfl, ?_⟩) (by assumption) ?_
          rotate_left
          · intro w hSw
            (try dsimp only at hSw)
            go_simp
            try with_reducible rfl
          simp only [Act.put, List.getElem_toArray, List.getElem_cons_succ, List.getElem_cons_zero, List.setIfInBounds_toArray, List.set_cons_zero, List.set_cons_succ]
          refine wpAnyH_take (i := 9) (v := ?_) rfl (by kernel_rfl) (by kernel_rfl) (by kernel_rfl) (fun _ _ _ h => h) (Or.inl ⟨by rfl, ?_⟩) (by assumption) ?_
          rotate_left
          · intro w hSw
            (try dsimp only at hSw)
            go_simp
            try with_reducible rfl
          simp only [Act.put, List.getElem_toArray, List.getElem_cons_succ, List.getElem_cons_zero, List.setIfInBounds_toArray, List.set_cons_zero, List.set_cons_succ]
          refine wpAnyH_take (i := 10) (v := ?_) rfl (by kernel_rfl) (by kernel_rfl) (by kernel_rfl) (fun _ _ _ h => h) (Or.inl ⟨by rfl, ?_⟩) (by assumption) ?_
          rotate_left
          · intro w hSw
            (try dsimp only at hSw)
            go_simp
            try with_reducible rfl
          simp only [Act.put, List.getElem_toArray, List.getElem_cons_succ, List.getElem_cons_zero, List.setIfInBounds_toArray, List.set_cons_zero, List.set_cons_succ]
          refine wpAnyH_take (i := 11) (v := ?_) rfl (by kernel_rfl) (by kernel_rfl) (by kernel_rfl) (fun _ _ _ h => h) (Or.inl ⟨by rfl, ?_⟩) (by assumption) ?_
          rotate_left
          · intro w hSw
            (try dsimp only at hSw)
            go_simp
            try with_reducible rfl
          simp only [Act.put, List.getElem_toArray, List.getElem_cons_succ, List.getElem_cons_zero, List.setIfInBounds_toArray, List.set_cons_zero, List.set_cons_succ]
          refine wpAnyH_take (i := 12) (v := ?_) rfl (by kernel_rfl) (by kernel_rfl) (by kernel_rfl) (fun _ _ _ h => h) (Or.inl ⟨by rfl, ?_⟩) (by assumption) ?_
          rotate_left
          · intro w hSw
            (try dsimp only at hSw)
            go_simp
            try with_reducible rfl
          simp only [Act.put, List.getElem_toArray, List.getElem_cons_succ, List.getElem_cons_zero, List.setIfInBounds_toArray, List.set_cons_zero, List.set_cons_succ]
          refine wpAnyH_ready (rs := [13]) (by kernel_rfl) (by simp) ?_
          refine AllReadyH.cons rfl (fun K hK => ?_) AllReadyH.nil
          go_simp
          refine (HT.out _).mono ?_
          rintro e y2 ⟨rfl, q2⟩
          have Bl_y2 := blk_kept q2 Bl_y1
          have Bm_y2 := blk_kept q2 Bm_y1
          have Be_y2 := blk_kept q2 Be_y1
          have cl_y2 := blk_cell Bl_y2
          have cm_y2 := blk_cell Bm_y2
          have ce_y2 := blk_cell Be_y2
          have K_y2 := hid (K_y1.out.trans q2)
          clear q2
          refine hK.out _ _ (by go_keep) (fun hHeld => ?_)
          clear hK K
          try simp only [Act.put, List.getElem_toArray, List.getElem_cons_succ, List.getElem_cons_zero, List.setIfInBounds_toArray, List.set_cons_zero, List.set_cons_succ]
          refine wpAnyH_take (i := 14) (v := ?_) rfl (by kernel_rfl) (by kernel_rfl) (by kernel_rfl) (fun _ _ _ h => h) (Or.inl ⟨by rfl, ?_⟩) (by assumption) ?_
          rotate_left
          · intro w hSw
            (try dsimp only at hSw)
            go_simp
            try with_reducible rfl
          simp only [Act.put, List.getElem_toArray, List.getElem_cons_succ, List.getElem_cons_zero, List.setIfInBounds_toArray, List.set_cons_zero, List.set_cons_succ]
          refine wpAnyH_take (i := 15) (v := ?_) rfl (by kernel_rfl) (by kernel_rfl) (by kernel_rfl) (fun _ _ _ h => h) (Or.inl ⟨by rfl, ?_⟩) (by assumption) ?_
          rotate_left
          · intro w hSw
            (try dsimp only at hSw)
            go_simp
            try with_reducible rfl
          simp only [Act.put, List.getElem_toArray, List.getElem_cons_succ, List.getElem_cons_zero, List.setIfInBounds_toArray, List.set_cons_zero, List.set_cons_succ]
          refine wpAnyH_take (i := 16) (v := ?_) rfl (by kernel_rfl) (by kernel_rfl) (by kernel_rfl) (fun _ _ _ h => h) (Or.inl ⟨by rfl, ?_⟩) (by assumption) ?_
          rotate_left
          · intro w hSw
            (try dsimp only at hSw)
            go_simp
            try with_reducible rfl
          simp only [Act.put, List.getElem_toArray, List.getElem_cons_succ, List.getElem_cons_zero, List.setIfInBounds_toArray, List.set_cons_zero, List.set_cons_succ]
          refine wpAnyH_take (i := 17) (v := ?_) rfl (by kernel_rfl) (by kernel_rfl) (by kernel_rfl) (fun _ _ _ h => h) (Or.inl ⟨by rfl, ?_⟩) (by assumption) ?_
          rotate_left
          · intro w hSw
            (try dsimp only at hSw)
            go_simp
            try with_reducible rfl
          simp only [Act.put, List.getElem_toArray, List.getElem_cons_succ, List.getElem_cons_zero, List.setIfInBounds_toArray, List.set_cons_zero, List.set_cons_succ]
          refine wpAnyH_take (i := 18) (v := ?_) rfl (by kernel_rfl) (by kernel_rfl) (by kernel_rfl) (fun _ _ _ h => h) (Or.inl ⟨by rfl, ?_⟩) (by assumption) ?_
          rotate_left
          · intro w hSw
            (try dsimp only at hSw)
            go_simp
            try with_reducible rfl
          simp only [Act.put, List.getElem_toArray, List.getElem_cons_succ, List.getElem_cons_zero, List.setIfInBounds_toArray, List.set_cons_zero, List.set_cons_succ]
          refine wpAnyH_take (i := 19) (v := ?_) rfl (by kernel_rfl) (by kernel_rfl) (by kernel_rfl) (fun _ _ _ h => h) (Or.inl ⟨by rfl, ?_⟩) (by assumption) ?_
          rotate_left
          · intro w hSw
            (try dsimp only at hSw)
            go_simp
            try with_reducible rfl
          simp only [Act.put, List.getElem_toArray, List.getElem_cons_succ, List.getElem_cons_zero, List.setIfInBounds_toArray, List.set_cons_zero, List.set_cons_succ]
          refine wpAnyH_take (i := 20) (v := ?_) rfl (by kernel_rfl) (by kernel_rfl) (by kernel_rfl) (fun _ _ _ h => h) (Or.inl ⟨by rfl, ?_⟩) (by assumption) ?_
          rotate_left
          · intro w hSw
            (try dsimp only at hSw)
            go_simp
            try with_reducible rfl
          simp only [Act.put, List.getElem_toArray, List.getElem_cons_succ, List.getElem_cons_zero, List.setIfInBounds_toArray, List.set_cons_zero, List.set_cons_succ]
          refine wpAnyH_take (i := 21) (v := undef) rfl (by kernel_rfl) (by kernel_rfl) (by kernel_rfl) (fun _ _ _ h => h) (Or.inr ⟨by rfl, rfl⟩) (by assumption) ?_
          simp only [Act.put, List.getElem_toArray, List.getElem_cons_succ, List.getElem_cons_zero, List.setIfInBounds_toArray, List.set_cons_zero, List.set_cons_succ]
          refine wpAnyH_take (i := 22) (v := undef) rfl (by kernel_rfl) (by kernel_rfl) (by kernel_rfl) (fun _ _ _ h => h) (Or.inr ⟨by rfl, rfl⟩) (by assumption) ?_
          simp only [Act.put, List.getElem_toArray, List.getElem_cons_succ, List.getElem_cons_zero, List.setIfInBounds_toArray, List.set_cons_zero, List.set_cons_succ]
          refine wpAnyH_take (i := 23) (v := undef) rfl (by kernel_rfl) (by kernel_rfl) (by kernel_rfl) (fun _ _ _ h => h) (Or.inr ⟨by rfl, rfl⟩) (by assumption) ?_
          simp only [Act.put, List.getElem_toArray, List.getElem_cons_succ, List.getElem_cons_zero, List.setIfInBounds_toArray, List.set_cons_zero, List.set_cons_succ]
          refine wpAnyH_take (i := 24) (v := undef) rfl (by kernel_rfl) (by kernel_rfl) (by kernel_rfl) (fun _ _ _ h => h) (Or.inr ⟨by rfl, rfl⟩) (by assumption) ?_
          simp only [Act.put, List.getElem_toArray, List.getElem_cons_succ, List.getElem_cons_zero, List.setIfInBounds_toArray, List.set_cons_zero, List.set_cons_succ]
          refine wpAnyH_take (i := 25) (v := undef) rfl (by kernel_rfl) (by kernel_rfl) (by kernel_rfl) (fun _ _ _ h => h) (Or.inr ⟨by rfl, rfl⟩) (by assumption) ?_
          simp only [Act.put, List.getElem_toArray, List.getElem_cons_succ, List.getElem_cons_zero, List.setIfInBounds_toArray, List.set_cons_zero, List.set_cons_succ]
          refine wpAnyH_take (i := 26) (v := undef) rfl (by kernel_rfl) (by kernel_rfl) (by kernel_rfl) (fun _ _ _ h => h) (Or.inr ⟨by rfl, rfl⟩) (by assumption) ?_
          simp only [Act.put, List.getElem_toArray, List.getElem_cons_succ, List.getElem_cons_zero, List.setIfInBounds_toArray, List.set_cons_zero, List.set_cons_succ]
          refine wpAnyH_take (i := 27) (v := undef) rfl (by kernel_rfl) (by kernel_rfl) (by kernel_rfl) (fun _ _ _ h => h) (Or.inr ⟨by rfl, rfl⟩) (by assumption) ?_
          simp only [Act.put, List.getElem_toArray, List.getElem_cons_succ, List.getElem_cons_zero, List.setIfInBounds_toArray, List.set_cons_zero, List.set_cons_succ]
          refine wpAnyH_take (i := 28) (v := undef) rfl (by kernel_rfl) (by kernel_rfl) (by kernel_rfl) (fun _ _ _ h => h) (Or.inr ⟨by rfl, rfl⟩) (by assumption) ?_
          simp only [Act.put, List.getElem_toArray, List.getElem_cons_succ, List.getElem_cons_zero, List.setIfInBounds_toArray, List.set_cons_zero, List.set_cons_succ]
          refine wpAnyH_take (i := 29) (v := ?_) rfl (by kernel_rfl) (by kernel_rfl) (by kernel_rfl) (fun _ _ _ h => h) (Or.inl ⟨by rfl, ?_⟩) (by assumption) ?_
          rotate_left
          · intro w hSw
            (try dsimp only at hSw)
            go_simp
            try with_reducible rfl
          simp only [Act.put, List.getElem_toArray, List.getElem_cons_succ, List.getElem_cons_zero, List.setIfInBounds_toArray, List.set_cons_zero, List.set_cons_succ]
          refine wpAnyH_take (i := 30) (v := ?_) rfl (by kernel_rfl) (by kernel_rfl) (by kernel_rfl) (fun _ _ _ h => h) (Or.inl ⟨by rfl, ?_⟩) (by assumption) ?_
          rotate_left
          · intro w hSw
            (try dsimp only at hSw)
            go_simp
            try with_reducible rfl
          simp only [Act.put, List.getElem_toArray, List.getElem_cons_succ, List.getElem_cons_zero, List.setIfInBounds_toArray, List.set_cons_zero, List.set_cons_succ]
          refine wpAnyH_done (by kernel_rfl) ?_ _
          have Bl_6 := Bl_y2
          have Bm_6 := Bm_y2
          have Be_6 := Be_y2
          have K_6 := K_y2
          clear Bl_y1 cl_y1 Bl_y2 cl_y2 Bm_y1 cm_y1 Bm_y2 cm_y2 Be_y1 ce_y1 Be_y2 ce_y2 K_y1 K_y2 hHeld Bl_5 cl_5 zl_5 Bm_5 cm_5 zm_5 Be_5 ce_5 ze_5 K_5
          have cl_6 := blk_cell Bl_6
          have zl_6 := blk_lt Bl_6
          have cm_6 := blk_cell Bm_6
          have zm_6 := blk_lt Bm_6
          have ce_6 := blk_cell Be_6
          have ze_6 := blk_lt Be_6
          go_wp2_with (first
            | ((with_reducible refine at_st 25 ?_); refine wl_store rfl rfl rfl rfl Bl_6 (by kernel_rfl) rfl (Nat.le_of_ble_eq_true rfl) (fun v7 p7 => ?_); have Bl_7 : Blk v7 w.heap.size 25 [.bool true, .int .u8 V.line, .int .u16 V.dot, .int .u8 V.lyc, .int .u8 V.sel, .bool false, .int .u16 V.extra] := p7.blk; have Bm_7 := p7.other _ _ _ nml Bm_6; have Be_7 := p7.other _ _ _ nel Be_6; have K_7 := hid (p7.kept _ K_6.out lel); clear p7 K_6 Bl_6 cl_6 zl_6 Bm_6 cm_6 zm_6 Be_6 ce_6 ze_6; have cl_7 := blk_cell Bl_7; have zl_7 := blk_lt Bl_7; have cm_7 := blk_cell Bm_7; have zm_7 := blk_lt Bm_7; have ce_7 := blk_cell Be_7; have ze_7 := blk_lt Be_7))
          go_roundw
          case rel => exact ⟨j + 1, ⟨true, V.line, V.dot, V.lyc, V.sel, false, V.extra⟩, by omega, by first | go_num | rfl, HV, Bl_7, K_7.out⟩
          case measure => first | omega | (simp; omega) | (simp [intOf]; omega)
        · rw [hw] at hh
          subst hh
          have Bl_0 := hq
          have cl_0 := blk_cell hq
          have zl_0 := blk_lt hq
          clear hq
          have HS := hid (fun u => once_src _ false hR.out hw u)
          have AX := hid (fun u => once_step _ x hR.out rfl true false hw hs x0 x1 u)
          clear hw hs
          go_wp2_with fail
          refine (HS.out _).mono ?_
          rintro e u1 ⟨rfl, k1⟩
          have Bl_1 := blk_kept k1 Bl_0
          have K_1 := hid (K_0.out.trans k1)
          clear k1 Bl_0 cl_0 zl_0
          have cl_1 := blk_cell Bl_1
          have zl_1 := blk_lt Bl_1
          go_wp2_with fail
          refine (AX.out _).mono ?_
          rintro e u2 ⟨⟨V, f, d, rfl, hV, hS⟩, k2⟩
          have HT := hid (fun u => once_src _ true hV hS u)
          have HV := hid hV
          clear hV hS
          have Bl_2 := blk_kept k2 Bl_1
          have K_2 := hid (K_1.out.trans k2)
          clear k2 K_1 Bl_1 cl_1 zl_1
          have cl_2 := blk_cell Bl_2
          have zl_2 := blk_lt Bl_2
          have Bl_3 := blk_past (blk_past Bl_2 (.cells ([.bool false, .int .u8 0, .int .u16 0, .int .u8 0, .int .u8 0, .bool false, .int .u16 0] : List Value).toArray 25)) (.cells ([.bool false, .bool false, .bool false] : List Value).toArray 28)
          have Bm_3 : Blk ((u2.alloc (.cells ([.bool false, .int .u8 0, .int .u16 0, .int .u8 0, .int .u8 0, .bool false, .int .u16 0] : List Value).toArray 25)).alloc (.cells ([.bool false, .bool false, .bool false] : List Value).toArray 28)) u2.heap.size 25 [.bool false, .int .u8 0, .int .u16 0, .int .u8 0, .int .u8 0, .bool false, .int .u16 0] := blk_past (blk_new u2 _ _) _
          have Be_3 : Blk ((u2.alloc (.cells ([.bool false, .int .u8 0, .int .u16 0, .int .u8 0, .int .u8 0, .bool false, .int .u16 0] : List Value).toArray 25)).alloc (.cells ([.bool false, .bool false, .bool false] : List Value).toArray 28)) (u2.heap.size + 1) 28 [.bool false, .bool false, .bool false] := by have q := blk_new (u2.alloc (.cells ([.bool false, .int .u8 0, .int .u16 0, .int .u8 0, .int .u8 0, .bool false, .int .u16 0] : List Value).toArray 25)) [.bool false, .bool false, .bool false] 28; rw [World.size_alloc] at q; exact q
          have K_3 := hid ((K_2.out.alloc (.cells ([.bool false, .int .u8 0, .int .u16 0, .int .u8 0, .int .u8 0, .bool false, .int .u16 0] : List Value).toArray 25)).alloc (.cells ([.bool false, .bool false, .bool false] : List Value).toArray 28))
          have nlm : w.heap.size ≠ u2.heap.size := by omega
          have nml : u2.heap.size ≠ w.heap.size := by omega
          have nle : w.heap.size ≠ u2.heap.size + 1 := by omega
          have nel : u2.heap.size + 1 ≠ w.heap.size := by omega
          have nme : u2.heap.size ≠ u2.heap.size + 1 := by omega
          have nem : u2.heap.size + 1 ≠ u2.heap.size := by omega
          have lem : w.heap.size ≤ u2.heap.size := K_2.out.size
          have lee : w.heap.size ≤ u2.heap.size + 1 := by omega
          clear K_2 Bl_2 cl_2 zl_2
          go_wp2_with (first
            | ((with_reducible refine at_st 25 ?_); refine wl_store rfl rfl rfl rfl Bm_3 (by kernel_rfl) rfl (Nat.le_of_ble_eq_true rfl) (fun v4 p4 => ?_); have Bm_4 : Blk v4 u2.heap.size 25 [.bool true, .int .u8 V.line, .int .u16 V.dot, .int .u8 V.lyc, .int .u8 V.sel, .bool true, .int .u16 V.extra] := p4.blk; have Bl_4 := p4.other _ _ _ nlm Bl_3; have Be_4 := p4.other _ _ _ nem Be_3; have K_4 := hid (p4.kept _ K_3.out lem); clear p4 K_3 Bl_3 Bm_3 Be_3; have cl_4 := blk_cell Bl_4; have zl_4 := blk_lt Bl_4; have cm_4 := blk_cell Bm_4; have zm_4 := blk_lt Bm_4; have ce_4 := blk_cell Be_4; have ze_4 := blk_lt Be_4)
            | ((with_reducible refine at_st 28 ?_); refine wl_store rfl rfl rfl rfl Be_4 (by kernel_rfl) rfl (Nat.le_of_ble_eq_true rfl) (fun v5 p5 => ?_); have Be_5 : Blk v5 (u2.heap.size + 1) 28 [.bool f, .bool true, .bool d] := p5.blk; have Bl_5 := p5.other _ _ _ nle Bl_4; have Bm_5 := p5.other _ _ _ nme Bm_4; have K_5 := hid (p5.kept _ K_4.out lee); clear p5 K_4 Bl_4 cl_4 zl_4 Bm_4 cm_4 zm_4 Be_4 ce_4 ze_4; have cl_5 := blk_cell Bl_5; have zl_5 := blk_lt Bl_5; have cm_5 := blk_cell Bm_5; have zm_5 := blk_lt Bm_5; have ce_5 := blk_cell Be_5; have ze_5 := blk_lt Be_5))
          refine wp_region_held_drew (S := (fun w' => w'.cell? ⟨u2.heap.size, 0, none⟩ = some (.bool true) ∧ w'.cell? ⟨u2.heap.size, 1, none⟩ = some (.int .u8 V.line) ∧ w'.cell? ⟨u2.heap.size, 2, none⟩ = some (.int .u16 V.dot) ∧ w'.cell? ⟨u2.heap.size, 3, none⟩ = some (.int .u8 V.lyc) ∧ w'.cell? ⟨u2.heap.size, 4, none⟩ = some (.int .u8 V.sel) ∧ w'.cell? ⟨u2.heap.size, 5, none⟩ = some (.bool true) ∧ w'.cell? ⟨u2.heap.size, 6, none⟩ = some (.int .u16 V.extra) ∧ w'.cell? ⟨u2.heap.size + 1, 0, none⟩ = some (.bool f) ∧ w'.cell? ⟨u2.heap.size + 1, 1, none⟩ = some (.bool true) ∧ w'.cell? ⟨u2.heap.size + 1, 2, none⟩ = some (.bool d) ∧ w'.cell? ⟨w.heap.size, 0, none⟩ = some (.bool true) ∧ w'.cell? ⟨w.heap.size, 1, none⟩ = some (.int .u8 sl) ∧ w'.cell? ⟨w.heap.size, 2, none⟩ = some (.int .u16 sd) ∧ w'.cell? ⟨w.heap.size, 3, none⟩ = some (.int .u8 sy) ∧ w'.cell? ⟨w.heap.size, 4, none⟩ = some (.int .u8 ss) ∧ w'.cell? ⟨w.heap.size, 5, none⟩ = some (.bool false) ∧ w'.cell? ⟨w.heap.size, 6, none⟩ = some (.int .u16 se))) (by kernel_rfl) (by go_keep) (fun hHeld => ?_)
          refine wpAnyH_take (i := 0) (v := ?_) rfl (by kernel_rfl) (by kernel_rfl) (by kernel_rfl) (fun _ _ _ h => h) (Or.inl ⟨by rfl, ?_⟩) (by assumption) ?_
          rotate_left
          · intro w hSw
            (try dsimp only at hSw)
            go_simp
            try with_reducible rfl
          simp only [Act.put, List.getElem_toArray, List.getElem_cons_succ, List.getElem_cons_zero, List.setIfInBounds_toArray, List.set_cons_zero, List.set_cons_succ]
          refine wpAnyH_take (i := 1) (v := ?_) rfl (by kernel_rfl) (by kernel_rfl) (by kernel_rfl) (fun _ _ _ h => h) (Or.inl ⟨by rfl, ?_⟩) (by assumption) ?_
          rotate_left
          · intro w hSw
            (try dsimp only at hSw)
            go_simp
            try with_reducible rfl
          simp only [Act.put, List.getElem_toArray, List.getElem_cons_succ, List.getElem_cons_zero, List.setIfInBounds_toArray, List.set_cons_zero, List.set_cons_succ]
          refine wpAnyH_take (i := 2) (v := ?_) rfl (by kernel_rfl) (by kernel_rfl) (by kernel_rfl) (fun _ _ _ h => h) (Or.inl ⟨by rfl, ?_⟩) (by assumption) ?_
          rotate_left
          · intro w hSw
            (try dsimp only at hSw)
            go_simp
            try with_reducible rfl
          simp only [Act.put, List.getElem_toArray, List.getElem_cons_succ, List.getElem_cons_zero, List.setIfInBounds_toArray, List.set_cons_zero, List.set_cons_succ]
          refine wpAnyH_ready (rs := [3]) (by kernel_rfl) (by simp) ?_
          refine AllReadyH.cons rfl (fun K hK => ?_) AllReadyH.nil
          go_simp
          refine (HT.out _).mono ?_
          rintro e y1 ⟨rfl, q1⟩
          have Bl_y1 := blk_kept q1 (blk_drew Bl_5)
          have Bm_y1 := blk_kept q1 (blk_drew Bm_5)
          have Be_y1 := blk_kept q1 (blk_drew Be_5)
          have cl_y1 := blk_cell Bl_y1
          have cm_y1 := blk_cell Bm_y1
          have ce_y1 := blk_cell Be_y1
          have K_y1 := hid (K_5.out.drew.trans q1)
          clear q1
          refine hK.out _ _ (by go_keep) (fun hHeld => ?_)
          clear hK K
          try simp only [Act.put, List.getElem_toArray, List.getElem_cons_succ, List.getElem_cons_zero, List.setIfInBounds_toArray, List.set_cons_zero, List.set_cons_succ]
          refine wpAnyH_take (i := 4) (v := ?_) rfl (by kernel_rfl) (by kernel_rfl) (by kernel_rfl) (fun _ _ _ h => h) (Or.inl ⟨by rfl, ?_⟩) (by assumption) ?_
          rotate_left
          · intro w hSw
            (try dsimp only at hSw)
            go_simp
            try with_reducible rfl
          simp only [Act.put, List.getElem_toArray, List.getElem_cons_succ, List.getElem_cons_zero, List.setIfInBounds_toArray, List.set_cons_zero, List.set_cons_succ]
          refine wpAnyH_take (i := 5) (v := ?_) rfl (by kernel_rfl) (by kernel_rfl) (by kernel_rfl) (fun _ _ _ h => h) (Or.inl ⟨by rfl, ?_⟩) (by assumption) ?_
          rotate_left
          · intro w hSw
            (try dsimp only at hSw)
            go_simp
            try with_reducible rfl
          simp only [Act.put, List.getElem_toArray, List.getElem_cons_succ, List.getElem_cons_zero, List.setIfInBounds_toArray, List.set_cons_zero, List.set_cons_succ]
          refine wpAnyH_take (i := 6) (v := ?_) rfl (by kernel_rfl) (by kernel_rfl) (by kernel_rfl) (fun _ _ _ h => h) (Or.inl ⟨by rfl, ?_⟩) (by assumption) ?_
          rotate_left
          · intro w hSw
            (try dsimp only at hSw)
            go_simp
            try with_reducible rfl
          simp only [Act.put, List.getElem_toArray, List.getElem_cons_succ, List.getElem_cons_zero, List.setIfInBounds_toArray, List.set_cons_zero, List.set_cons_succ]
          refine wpAnyH_take (i := 7) (v := ?_) rfl (by kernel_rfl) (by kernel_rfl) (by kernel_rfl) (fun _ _ _ h => h) (Or.inl ⟨by rfl, ?_⟩) (by assumption) ?_
          rotate_left
          · intro w hSw
            (try dsimp only at hSw)
            go_simp
            try with_reducible rfl
          simp only [Act.put, List.getElem_toArray, List.getElem_cons_succ, List.getElem_cons_zero, List.setIfInBounds_toArray, List.set_cons_zero, List.set_cons_succ]
          refine wpAnyH_take (i := 8) (v := ?_) rfl (by kernel_rfl) (by kernel_rfl) (by kernel_rfl) (fun _ _ _ h => h) (Or.inl ⟨by rfl, ?_⟩) (by assumption) ?_
          rotate_left
          · intro w hSw
            (try dsimp only at hSw)
            go_simp
            try with_reducible rfl
          simp only [Act.put, List.getElem_toArray, List.getElem_cons_succ, List.getElem_cons_zero, List.setIfInBounds_toArray, List.set_cons_zero, List.set_cons_succ]
          refine wpAnyH_take (i := 9) (v := ?_) rfl (by kernel_rfl) (by kernel_rfl) (by kernel_rfl) (fun _ _ _ h => h) (Or.inl ⟨by rfl, ?_⟩) (by assumption) ?_
          rotate_left
          · intro w hSw
            (try dsimp only at hSw)
            go_simp
            try with_reducible rfl
          simp only [Act.put, List.getElem_toArray, List.getElem_cons_succ, List.getElem_cons_zero, List.setIfInBounds_toArray, List.set_cons_zero, List.set_cons_succ]
          refine wpAnyH_take (i := 10) (v := ?_) rfl (by kernel_rfl) (by kernel_rfl) (by kernel_rfl) (fun _ _ _ h => h) (Or.inl ⟨by rfl, ?_⟩) (by assumption) ?_
          rotate_left
          · intro w hSw
            (try dsimp only at hSw)
            go_simp
            try with_reducible rfl
          simp only [Act.put, List.getElem_toArray, List.getElem_cons_succ, List.getElem_cons_zero, List.setIfInBounds_toArray, List.set_cons_zero, List.set_cons_succ]
          refine wpAnyH_take (i := 11) (v := ?_) rfl (by kernel_rfl) (by kernel_rfl) (by kernel_rfl) (fun _ _ _ h => h) (Or.inl ⟨by rfl, ?_⟩) (by assumption) ?_
          rotate_left
          · intro w hSw
            (try dsimp only at hSw)
            go_simp
            try with_reducible rfl
          simp only [Act.put, List.getElem_toArray, List.getElem_cons_succ, List.getElem_cons_zero, List.setIfInBounds_toArray, List.set_cons_zero, List.set_cons_succ]
          refine wpAnyH_take (i := 12) (v := ?_) rfl (by kernel_rfl) (by kernel_rfl) (by kernel_rfl) (fun _ _ _ h => h) (Or.inl ⟨by rfl, ?_⟩) (by assumption) ?_
          rotate_left
          · intro w hSw
            (try dsimp only at hSw)
            go_simp
            try with_reducible rfl
          simp only [Act.put, List.getElem_toArray, List.getElem_cons_succ, List.getElem_cons_zero, List.setIfInBounds_toArray, List.set_cons_zero, List.set_cons_succ]
          refine wpAnyH_ready (rs := [13]) (by kernel_rfl) (by simp) ?_
          refine AllReadyH.cons rfl (fun K hK => ?_) AllReadyH.nil
          go_simp
          refine (HT.out _).mono ?_
          rintro e y2 ⟨rfl, q2⟩
          have Bl_y2 := blk_kept q2 Bl_y1
          have Bm_y2 := blk_kept q2 Bm_y1
          have Be_y2 := blk_kept q2 Be_y1
          have cl_y2 := blk_cell Bl_y2
          have cm_y2 := blk_cell Bm_y2
          have ce_y2 := blk_cell Be_y2
          have K_y2 := hid (K_y1.out.trans q2)
          clear q2
          refine hK.out _ _ (by go_keep) (fun hHeld => ?_)
          clear hK K
          try simp only [Act.put, List.getElem_toArray, List.getElem_cons_succ, List.getElem_cons_zero, List.setIfInBounds_toArray, List.set_cons_zero, List.set_cons_succ]
          refine wpAnyH_take (i := 14) (v := ?_) rfl (by kernel_rfl) (by kernel_rfl) (by kernel_rfl) (fun _ _ _ h => h) (Or.inl ⟨by rfl, ?_⟩) (by assumption) ?_
          rotate_left
          · intro w hSw
            (try dsimp only at hSw)
            go_simp
            try with_reducible rfl
          simp only [Act.put, List.getElem_toArray, List.getElem_cons_succ, List.getElem_cons_zero, List.setIfInBounds_toArray, List.set_cons_zero, List.set_cons_succ]
          refine wpAnyH_take (i := 15) (v := ?_) rfl (by kernel_rfl) (by kernel_rfl) (by kernel_rfl) (fun _ _ _ h => h) (Or.inl ⟨by rfl, ?_⟩) (by assumption) ?_
          rotate_left
          · intro w hSw
            (try dsimp only at hSw)
            go_simp
            try with_reducible rfl
          simp only [Act.put, List.getElem_toArray, List.getElem_cons_succ, List.getElem_cons_zero, List.setIfInBounds_toArray, List.set_cons_zero, List.set_cons_succ]
          refine wpAnyH_take (i := 16) (v := ?_) rfl (by kernel_rfl) (by kernel_rfl) (by kernel_rfl) (fun _ _ _ h => h) (Or.inl ⟨by rfl, ?_⟩) (by assumption) ?_
          rotate_left
          · intro w hSw
            (try dsimp only at hSw)
            go_simp
            try with_reducible rfl
          simp only [Act.put, List.getElem_toArray, List.getElem_cons_succ, List.getElem_cons_zero, List.setIfInBounds_toArray, List.set_cons_zero, List.set_cons_succ]
          refine wpAnyH_take (i := 17) (v := ?_) rfl (by kernel_rfl) (by kernel_rfl) (by kernel_rfl) (fun _ _ _ h => h) (Or.inl ⟨by rfl, ?_⟩) (by assumption) ?_
          rotate_left
          · intro w hSw
            (try dsimp only at hSw)
            go_simp
            try with_reducible rfl
          simp only [Act.put, List.getElem_toArray, List.getElem_cons_succ, List.getElem_cons_zero, List.setIfInBounds_toArray, List.set_cons_zero, List.set_cons_succ]
          refine wpAnyH_take (i := 18) (v := ?_) rfl (by kernel_rfl) (by kernel_rfl) (by kernel_rfl) (fun _ _ _ h => h) (Or.inl ⟨by rfl, ?_⟩) (by assumption) ?_
          rotate_left
          · intro w hSw
            (try dsimp only at hSw)
            go_simp
            try with_reducible rfl
          simp only [Act.put, List.getElem_toArray, List.getElem_cons_succ, List.getElem_cons_zero, List.setIfInBounds_toArray, List.set_cons_zero, List.set_cons_succ]
          refine wpAnyH_take (i := 19) (v := ?_) rfl (by kernel_rfl) (by kernel_rfl) (by kernel_rfl) (fun _ _ _ h => h) (Or.inl ⟨by rfl, ?_⟩) (by assumption) ?_
          rotate_left
          · intro w hSw
            (try dsimp only at hSw)
            go_simp
            try with_reducible rfl
          simp only [Act.put, List.getElem_toArray, List.getElem_cons_succ, List.getElem_cons_zero, List.setIfInBounds_toArray, List.set_cons_zero, List.set_cons_succ]
          refine wpAnyH_take (i := 20) (v := ?_) rfl (by kernel_rfl) (by kernel_rfl) (by kernel_rfl) (fun _ _ _ h => h) (Or.inl ⟨by rfl, ?_⟩) (by assumption) ?_
          rotate_left
          · intro w hSw
            (try dsimp only at hSw)
            go_simp
            try with_reducible rfl
          simp only [Act.put, List.getElem_toArray, List.getElem_cons_succ, List.getElem_cons_zero, List.setIfInBounds_toArray, List.set_cons_zero, List.set_cons_succ]
          refine wpAnyH_take (i := 21) (v := undef) rfl (by kernel_rfl) (by kernel_rfl) (by kernel_rfl) (fun _ _ _ h => h) (Or.inr ⟨by rfl, rfl⟩) (by assumption) ?_
          simp only [Act.put, List.getElem_toArray, List.getElem_cons_succ, List.getElem_cons_zero, List.setIfInBounds_toArray, List.set_cons_zero, List.set_cons_succ]
          refine wpAnyH_take (i := 22) (v := undef) rfl (by kernel_rfl) (by kernel_rfl) (by kernel_rfl) (fun _ _ _ h => h) (Or.inr ⟨by rfl, rfl⟩) (by assumption) ?_
          simp only [Act.put, List.getElem_toArray, List.getElem_cons_succ, List.getElem_cons_zero, List.setIfInBounds_toArray, List.set_cons_zero, List.set_cons_succ]
          refine wpAnyH_take (i := 23) (v := undef) rfl (by kernel_rfl) (by kernel_rfl) (by kernel_rfl) (fun _ _ _ h => h) (Or.inr ⟨by rfl, rfl⟩) (by assumption) ?_
          simp only [Act.put, List.getElem_toArray, List.getElem_cons_succ, List.getElem_cons_zero, List.setIfInBounds_toArray, List.set_cons_zero, List.set_cons_succ]
          refine wpAnyH_take (i := 24) (v := undef) rfl (by kernel_rfl) (by kernel_rfl) (by kernel_rfl) (fun _ _ _ h => h) (Or.inr ⟨by rfl, rfl⟩) (by assumption) ?_
          simp only [Act.put, List.getElem_toArray, List.getElem_cons_succ, List.getElem_cons_zero, List.setIfInBounds_toArray, List.set_cons_zero, List.set_cons_succ]
          refine wpAnyH_take (i := 25) (v := undef) rfl (by kernel_rfl) (by kernel_rfl) (by kernel_rfl) (fun _ _ _ h => h) (Or.inr ⟨by rfl, rfl⟩) (by assumption) ?_
          simp only [Act.put, List.getElem_toArray, List.getElem_cons_succ, List.getElem_cons_zero, List.setIfInBounds_toArray, List.set_cons_zero, List.set_cons_succ]
          refine wpAnyH_take (i := 26) (v := undef) rfl (by kernel_rfl) (by kernel_rfl) (by kernel_rfl) (fun _ _ _ h => h) (Or.inr ⟨by rfl, rfl⟩) (by assumption) ?_
          simp only [Act.put, List.getElem_toArray, List.getElem_cons_succ, List.getElem_cons_zero, List.setIfInBounds_toArray, List.set_cons_zero, List.set_cons_succ]
          refine wpAnyH_take (i := 27) (v := undef) rfl (by kernel_rfl) (by kernel_rfl) (by kernel_rfl) (fun _ _ _ h => h) (Or.inr ⟨by rfl, rfl⟩) (by assumption) ?_
          simp only [Act.put, List.getElem_toArray, List.getElem_cons_succ, List.getElem_cons_zero, List.setIfInBounds_toArray, List.set_cons_zero, List.set_cons_succ]
          refine wpAnyH_take (i := 28) (v := undef) rfl (by kernel_rfl) (by kernel_rfl) (by kernel_rfl) (fun _ _ _ h => h) (Or.inr ⟨by rfl, rfl⟩) (by assumption) ?_
          simp only [Act.put, List.getElem_toArray, List.getElem_cons_succ, List.getElem_cons_zero, List.setIfInBounds_toArray, List.set_cons_zero, List.set_cons_succ]
          refine wpAnyH_take (i := 29) (v := ?_) rfl (by kernel_rfl) (by kernel_rfl) (by kernel_rfl) (fun _ _ _ h => h) (Or.inl ⟨by rfl, ?_⟩) (by assumption) ?_
          rotate_left
          · intro w hSw
            (try dsimp only at hSw)
            go_simp
            try with_reducible rfl
          simp only [Act.put, List.getElem_toArray, List.getElem_cons_succ, List.getElem_cons_zero, List.setIfInBounds_toArray, List.set_cons_zero, List.set_cons_succ]
          refine wpAnyH_take (i := 30) (v := ?_) rfl (by kernel_rfl) (by kernel_rfl) (by kernel_rfl) (fun _ _ _ h => h) (Or.inl ⟨by rfl, ?_⟩) (by assumption) ?_
          rotate_left
          · intro w hSw
            (try dsimp only at hSw)
            go_simp
            try with_reducible rfl
          simp only [Act.put, List.getElem_toArray, List.getElem_cons_succ, List.getElem_cons_zero, List.setIfInBounds_toArray, List.set_cons_zero, List.set_cons_succ]
          refine wpAnyH_done (by kernel_rfl) ?_ _
          have Bl_6 := Bl_y2
          have Bm_6 := Bm_y2
          have Be_6 := Be_y2
          have K_6 := K_y2
          clear Bl_y1 cl_y1 Bl_y2 cl_y2 Bm_y1 cm_y1 Bm_y2 cm_y2 Be_y1 ce_y1 Be_y2 ce_y2 K_y1 K_y2 hHeld Bl_5 cl_5 zl_5 Bm_5 cm_5 zm_5 Be_5 ce_5 ze_5 K_5
          have cl_6 := blk_cell Bl_6
          have zl_6 := blk_lt Bl_6
          have cm_6 := blk_cell Bm_6
          have zm_6 := blk_lt Bm_6
          have ce_6 := blk_cell Be_6
          have ze_6 := blk_lt Be_6
          go_wp2_with (first
            | ((with_reducible refine at_st 25 ?_); refine wl_store rfl rfl rfl rfl Bl_6 (by kernel_rfl) rfl (Nat.le_of_ble_eq_true rfl) (fun v7 p7 => ?_); have Bl_7 : Blk v7 w.heap.size 25 [.bool true, .int .u8 V.line, .int .u16 V.dot, .int .u8 V.lyc, .int .u8 V.sel, .bool true, .int .u16 V.extra] := p7.blk; have Bm_7 := p7.other _ _ _ nml Bm_6; have Be_7 := p7.other _ _ _ nel Be_6; have K_7 := hid (p7.kept _ K_6.out lel); clear p7 K_6 Bl_6 cl_6 zl_6 Bm_6 cm_6 zm_6 Be_6 ce_6 ze_6; have cl_7 := blk_cell Bl_7; have zl_7 := blk_lt Bl_7; have cm_7 := blk_cell Bm_7; have zm_7 := blk_lt Bm_7; have ce_7 := blk_cell Be_7; have ze_7 := blk_lt Be_7))
          go_roundw
          case rel => exact ⟨j + 1, ⟨true, V.line, V.dot, V.lyc, V.sel, true, V.extra⟩, by omega, by first | go_num | rfl, HV, Bl_7, K_7.out⟩
          case measure => first | omega | (simp; omega) | (simp [intOf]; omega)
        · rw [hw] at hh
          subst hh
          have Bl_0 := hq
          have cl_0 := blk_cell hq
          have zl_0 := blk_lt hq
          clear hq
          have HS := hid (fun u => once_src _ true hR.out hw u)
          have AX := hid (fun u => once_step _ x hR.out rfl false true hw hs x0 x1 u)
          clear hw hs
          go_wp2_with fail
          refine (HS.out _).mono ?_
          rintro e u1 ⟨rfl, k1⟩
          have Bl_1 := blk_kept k1 Bl_0
          have K_1 := hid (K_0.out.trans k1)
          clear k1 Bl_0 cl_0 zl_0
          have cl_1 := blk_cell Bl_1
          have zl_1 := blk_lt Bl_1
          go_wp2_with fail
          refine (AX.out _).mono ?_
          rintro e u2 ⟨⟨V, f, d, rfl, hV, hS⟩, k2⟩
          have HT := hid (fun u => once_src _ false hV hS u)
          have HV := hid hV
          clear hV hS
          have Bl_2 := blk_kept k2 Bl_1
          have K_2 := hid (K_1.out.trans k2)
          clear k2 K_1 Bl_1 cl_1 zl_1
          have cl_2 := blk_cell Bl_2
          have zl_2 := blk_lt Bl_2
          have Bl_3 := blk_past (blk_past Bl_2 (.cells ([.bool false, .int .u8 0, .int .u16 0, .int .u8 0, .int .u8 0, .bool false, .int .u16 0] : List Value).toArray 25)) (.cells ([.bool false, .bool false, .bool false] : List Value).toArray 28)
          have Bm_3 : Blk ((u2.alloc (.cells ([.bool false, .int .u8 0, .int .u16 0, .int .u8 0, .int .u8 0, .bool false, .int .u16 0] : List Value).toArray 25)).alloc (.cells ([.bool false, .bool false, .bool false] : List Value).toArray 28)) u2.heap.size 25 [.bool false, .int .u8 0, .int .u16 0, .int .u8 0, .int .u8 0, .bool false, .int .u16 0] := blk_past (blk_new u2 _ _) _
          have Be_3 : Blk ((u2.alloc (.cells ([.bool false, .int .u8 0, .int .u16 0, .int .u8 0, .int .u8 0, .bool false, .int .u16 0] : List Value).toArray 25)).alloc (.cells ([.bool false, .bool false, .bool false] : List Value).toArray 28)) (u2.heap.size + 1) 28 [.bool false, .bool false, .bool false] := by have q := blk_new (u2.alloc (.cells ([.bool false, .int .u8 0, .int .u16 0, .int .u8 0, .int .u8 0, .bool false, .int .u16 0] : List Value).toArray 25)) [.bool false, .bool false, .bool false] 28; rw [World.size_alloc] at q; exact q
          have K_3 := hid ((K_2.out.alloc (.cells ([.bool false, .int .u8 0, .int .u16 0, .int .u8 0, .int .u8 0, .bool false, .int .u16 0] : List Value).toArray 25)).alloc (.cells ([.bool false, .bool false, .bool false] : List Value).toArray 28))
          have nlm : w.heap.size ≠ u2.heap.size := by omega
          have nml : u2.heap.size ≠ w.heap.size := by omega
          have nle : w.heap.size ≠ u2.heap.size + 1 := by omega
          have nel : u2.heap.size + 1 ≠ w.heap.size := by omega
          have nme : u2.heap.size ≠ u2.heap.size + 1 := by omega
          have nem : u2.heap.size + 1 ≠ u2.heap.size := by omega
          have lem : w.heap.size ≤ u2.heap.size := K_2.out.size
          have lee : w.heap.size ≤ u2.heap.size + 1 := by omega
          clear K_2 Bl_2 cl_2 zl_2
          go_wp2_with (first
            | ((with_reducible refine at_st 25 ?_); refine wl_store rfl rfl rfl rfl Bm_3 (by kernel_rfl) rfl (Nat.le_of_ble_eq_true rfl) (fun v4 p4 => ?_); have Bm_4 : Blk v4 u2.heap.size 25 [.bool true, .int .u8 V.line, .int .u16 V.dot, .int .u8 V.lyc, .int .u8 V.sel, .bool false, .int .u16 V.extra] := p4.blk; have Bl_4 := p4.other _ _ _ nlm Bl_3; have Be_4 := p4.other _ _ _ nem Be_3; have K_4 := hid (p4.kept _ K_3.out lem); clear p4 K_3 Bl_3 Bm_3 Be_3; have cl_4 := blk_cell Bl_4; have zl_4 := blk_lt Bl_4; have cm_4 := blk_cell Bm_4; have zm_4 := blk_lt Bm_4; have ce_4 := blk_cell Be_4; have ze_4 := blk_lt Be_4)
            | ((with_reducible refine at_st 28 ?_); refine wl_store rfl rfl rfl rfl Be_4 (by kernel_rfl) rfl (Nat.le_of_ble_eq_true rfl) (fun v5 p5 => ?_); have Be_5 : Blk v5 (u2.heap.size + 1) 28 [.bool f, .bool false, .bool d] := p5.blk; have Bl_5 := p5.other _ _ _ nle Bl_4; have Bm_5 := p5.other _ _ _ nme Bm_4; have K_5 := hid (p5.kept _ K_4.out lee); clear p5 K_4 Bl_4 cl_4 zl_4 Bm_4 cm_4 zm_4 Be_4 ce_4 ze_4; have cl_5 := blk_cell Bl_5; have zl_5 := blk_lt Bl_5; have cm_5 := blk_cell Bm_5; have zm_5 := blk_lt Bm_5; have ce_5 := blk_cell Be_5; have ze_5 := blk_lt Be_5))
          refine wp_region_held_drew (S := (fun w' => w'.cell? ⟨u2.heap.size, 0, none⟩ = some (.bool true) ∧ w'.cell? ⟨u2.heap.size, 1, none⟩ = some (.int .u8 V.line) ∧ w'.cell? ⟨u2.heap.size, 2, none⟩ = some (.int .u16 V.dot) ∧ w'.cell? ⟨u2.heap.size, 3, none⟩ = some (.int .u8 V.lyc) ∧ w'.cell? ⟨u2.heap.size, 4, none⟩ = some (.int .u8 V.sel) ∧ w'.cell? ⟨u2.heap.size, 5, none⟩ = some (.bool false) ∧ w'.cell? ⟨u2.heap.size, 6, none⟩ = some (.int .u16 V.extra) ∧ w'.cell? ⟨u2.heap.size + 1, 0, none⟩ = some (.bool f) ∧ w'.cell? ⟨u2.heap.size + 1, 1, none⟩ = some (.bool false) ∧ w'.cell? ⟨u2.heap.size + 1, 2, none⟩ = some (.bool d) ∧ w'.cell? ⟨w.heap.size, 0, none⟩ = some (.bool true) ∧ w'.cell? ⟨w.heap.size, 1, none⟩ = some (.int .u8 sl) ∧ w'.cell? ⟨w.heap.size, 2, none⟩ = some (.int .u16 sd) ∧ w'.cell? ⟨w.heap.size, 3, none⟩ = some (.int .u8 sy) ∧ w'.cell? ⟨w.heap.size, 4, none⟩ = some (.int .u8 ss) ∧ w'.cell? ⟨w.heap.size, 5, none⟩ = some (.bool true) ∧ w'.cell? ⟨w.heap.size, 6, none⟩ = some (.int .u16 se))) (by kernel_rfl) (by go_keep) (fun hHeld => ?_)
          refine wpAnyH_take (i := 0) (v := ?_) rfl (by kernel_rfl) (by kernel_rfl) (by kernel_rfl) (fun _ _ _ h => h) (Or.inl ⟨by rfl, ?_⟩) (by assumption) ?_
          rotate_left
          · intro w hSw
            (try dsimp only at hSw)
            go_simp
            try with_reducible rfl
          simp only [Act.put, List.getElem_toArray, List.getElem_cons_succ, List.getElem_cons_zero, List.setIfInBounds_toArray, List.set_cons_zero, List.set_cons_succ]
          refine wpAnyH_take (i := 1) (v := ?_) rfl (by kernel_rfl) (by kernel_rfl) (by kernel_rfl) (fun _ _ _ h => h) (Or.inl ⟨by rfl, ?_⟩) (by assumption) ?_
          rotate_left
          · intro w hSw
            (try dsimp only at hSw)
            go_simp
            try with_reducible rfl
          simp only [Act.put, List.getElem_toArray, List.getElem_cons_succ, List.getElem_cons_zero, List.setIfInBounds_toArray, List.set_cons_zero, List.set_cons_succ]
          refine wpAnyH_take (i := 2) (v := ?_) rfl (by kernel_rfl) (by kernel_rfl) (by kernel_rfl) (fun _ _ _ h => h) (Or.inl ⟨by rfl, ?_⟩) (by assumption) ?_
          rotate_left
          · intro w hSw
            (try dsimp only at hSw)
            go_simp
            try with_reducible rfl
          simp only [Act.put, List.getElem_toArray, List.getElem_cons_succ, List.getElem_cons_zero, List.setIfInBounds_toArray, List.set_cons_zero, List.set_cons_succ]
          refine wpAnyH_ready (rs := [3]) (by kernel_rfl) (by simp) ?_
          refine AllReadyH.cons rfl (fun K hK => ?_) AllReadyH.nil
          go_simp
          refine (HT.out _).mono ?_
          rintro e y1 ⟨rfl, q1⟩
          have Bl_y1 := blk_kept q1 (blk_drew Bl_5)
          have Bm_y1 := blk_kept q1 (blk_drew Bm_5)
          have Be_y1 := blk_kept q1 (blk_drew Be_5)
          have cl_y1 := blk_cell Bl_y1
          have cm_y1 := blk_cell Bm_y1
          have ce_y1 := blk_cell Be_y1
          have K_y1 := hid (K_5.out.drew.trans q1)
          clear q1
          refine hK.out _ _ (by go_keep) (fun hHeld => ?_)
          clear hK K
          try simp only [Act.put, List.getElem_toArray, List.getElem_cons_succ, List.getElem_cons_zero, List.setIfInBounds_toArray, List.set_cons_zero, List.set_cons_succ]
          refine wpAnyH_take (i := 4) (v := ?_) rfl (by kernel_rfl) (by kernel_rfl) (by kernel_rfl) (fun _ _ _ h => h) (Or.inl ⟨by rfl, ?_⟩) (by assumption) ?_
          rotate_left
          · intro w hSw
            (try dsimp only at hSw)
            go_simp
            try with_reducible rfl
          simp only [Act.put, List.getElem_toArray, List.getElem_cons_succ, List.getElem_cons_zero, List.setIfInBounds_toArray, List.set_cons_zero, List.set_cons_succ]
          refine wpAnyH_take (i := 5) (v := undef) rfl (by kernel_rfl) (by kernel_rfl) (by kernel_rfl) (fun _ _ _ h => h) (Or.inr ⟨by rfl, rfl⟩) (by assumption) ?_
          simp only [Act.put, List.getElem_toArray, List.getElem_cons_succ, List.getElem_cons_zero, List.setIfInBounds_toArray, List.set_cons_zero, List.set_cons_succ]
          refine wpAnyH_take (i := 6) (v := undef) rfl (by kernel_rfl) (by kernel_rfl) (by kernel_rfl) (fun _ _ _ h => h) (Or.inr ⟨by rfl, rfl⟩) (by assumption) ?_
          simp only [Act.put, List.getElem_toArray, List.getElem_cons_succ, List.getElem_cons_zero, List.setIfInBounds_toArray, List.set_cons_zero, List.set_cons_succ]
          refine wpAnyH_take (i := 7) (v := ?_) rfl (by kernel_rfl) (by kernel_rfl) (by kernel_rfl) (fun _ _ _ h => h) (Or.inl ⟨by rfl, ?_⟩) (by assumption) ?_
          rotate_left
          · intro w hSw
            (try dsimp only at hSw)
            go_simp
            try with_reducible rfl
          simp only [Act.put, List.getElem_toArray, List.getElem_cons_succ, List.getElem_cons_zero, List.setIfInBounds_toArray, List.set_cons_zero, List.set_cons_succ]
          refine wpAnyH_take (i := 8) (v := ?_) rfl (by kernel_rfl) (by kernel_rfl) (by kernel_rfl) (fun _ _ _ h => h) (Or.inl ⟨by rfl, ?_⟩) (by assumption) ?_
          rotate_left
          · intro w hSw
            (try dsimp only at hSw)
            go_simp
            try with_reducible rfl
          simp only [Act.put, List.getElem_toArray, List.getElem_cons_succ, List.getElem_cons_zero, List.setIfInBounds_toArray, List.set_cons_zero, List.set_cons_succ]
          refine wpAnyH_take (i := 9) (v := ?_) rfl (by kernel_rfl) (by kernel_rfl) (by kernel_rfl) (fun _ _ _ h => h) (Or.inl ⟨by rfl, ?_⟩) (by assumption) ?_
          rotate_left
          · intro w hSw
            (try dsimp only at hSw)
            go_simp
            try with_reducible rfl
          simp only [Act.put, List.getElem_toArray, List.getElem_cons_succ, List.getElem_cons_zero, List.setIfInBounds_toArray, List.set_cons_zero, List.set_cons_succ]
          refine wpAnyH_take (i := 10) (v := ?_) rfl (by kernel_rfl) (by kernel_rfl) (by kernel_rfl) (fun _ _ _ h => h) (Or.inl ⟨by rfl, ?_⟩) (by assumption) ?_
          rotate_left
          · intro w hSw
            (try dsimp only at hSw)
            go_simp
            try with_reducible rfl
          simp only [Act.put, List.getElem_toArray, List.getElem_cons_succ, List.getElem_cons_zero, List.setIfInBounds_toArray, List.set_cons_zero, List.set_cons_succ]
          refine wpAnyH_take (i := 11) (v := ?_) rfl (by kernel_rfl) (by kernel_rfl) (by kernel_rfl) (fun _ _ _ h => h) (Or.inl ⟨by rfl, ?_⟩) (by assumption) ?_
          rotate_left
          · intro w hSw
            (try dsimp only at hSw)
            go_simp
            try with_reducible rfl
          simp only [Act.put, List.getElem_toArray, List.getElem_cons_succ, List.getElem_cons_zero, List.setIfInBounds_toArray, List.set_cons_zero, List.set_cons_succ]
          refine wpAnyH_take (i := 12) (v := ?_) rfl (by kernel_rfl) (by kernel_rfl) (by kernel_rfl) (fun _ _ _ h => h) (Or.inl ⟨by rfl, ?_⟩) (by assumption) ?_
          rotate_left
          · intro w hSw
            (try dsimp only at hSw)
            go_simp
            try with_reducible rfl
          simp only [Act.put, List.getElem_toArray, List.getElem_cons_succ, List.getElem_cons_zero, List.setIfInBounds_toArray, List.set_cons_zero, List.set_cons_succ]
          refine wpAnyH_ready (rs := [13]) (by kernel_rfl) (by simp) ?_
          refine AllReadyH.cons rfl (fun K hK => ?_) AllReadyH.nil
          go_simp
          refine (HT.out _).mono ?_
          rintro e y2 ⟨rfl, q2⟩
          have Bl_y2 := blk_kept q2 Bl_y1
          have Bm_y2 := blk_kept q2 Bm_y1
          have Be_y2 := blk_kept q2 Be_y1
          have cl_y2 := blk_cell Bl_y2
          have cm_y2 := blk_cell Bm_y2
          have ce_y2 := blk_cell Be_y2
          have K_y2 := hid (K_y1.out.trans q2)
          clear q2
          refine hK.out _ _ (by go_keep) (fun hHeld => ?_)
          clear hK K
          try simp only [Act.put, List.getElem_toArray, List.getElem_cons_succ, List.getElem_cons_zero, List.setIfInBounds_toArray, List.set_cons_zero, List.set_cons_succ]
          refine wpAnyH_take (i := 14) (v := ?_) rfl (by kernel_rfl) (by kernel_rfl) (by kernel_rfl) (fun _ _ _ h => h) (Or.inl ⟨by rfl, ?_⟩) (by assumption) ?_
          rotate_left
          · intro w hSw
            (try dsimp only at hSw)
            go_simp
            try with_reducible rfl
          simp only [Act.put, List.getElem_toArray, List.getElem_cons_succ, List.getElem_cons_zero, List.setIfInBounds_toArray, List.set_cons_zero, List.set_cons_succ]
          refine wpAnyH_take (i := 15) (v := ?_) rfl (by kernel_rfl) (by kernel_rfl) (by kernel_rfl) (fun _ _ _ h => h) (Or.inl ⟨by rfl, ?_⟩) (by assumption) ?_
          rotate_left
          · intro w hSw
            (try dsimp only at hSw)
            go_simp
            try with_reducible rfl
          simp only [Act.put, List.getElem_toArray, List.getElem_cons_succ, List.getElem_cons_zero, List.setIfInBounds_toArray, List.set_cons_zero, List.set_cons_succ]
          refine wpAnyH_take (i := 16) (v := ?_) rfl (by kernel_rfl) (by kernel_rfl) (by kernel_rfl) (fun _ _ _ h => h) (Or.inl ⟨by rfl, ?_⟩) (by assumption) ?_
          rotate_left
          · intro w hSw
            (try dsimp only at hSw)
            go_simp
            try with_reducible rfl
          simp only [Act.put, List.getElem_toArray, List.getElem_cons_succ, List.getElem_cons_zero, List.setIfInBounds_toArray, List.set_cons_zero, List.set_cons_succ]
          refine wpAnyH_take (i := 17) (v := ?_) rfl (by kernel_rfl) (by kernel_rfl) (by kernel_rfl) (fun _ _ _ h => h) (Or.inl ⟨by rfl, ?_⟩) (by assumption) ?_
          rotate_left
          · intro w hSw
            (try dsimp only at hSw)
            go_simp
            try with_reducible rfl
          simp only [Act.put, List.getElem_toArray, List.getElem_cons_succ, List.getElem_cons_zero, List.setIfInBounds_toArray, List.set_cons_zero, List.set_cons_succ]
          refine wpAnyH_take (i := 18) (v := ?_) rfl (by kernel_rfl) (by kernel_rfl) (by kernel_rfl) (fun _ _ _ h => h) (Or.inl ⟨by rfl, ?_⟩) (by assumption) ?_
          rotate_left
          · intro w hSw
            (try dsimp only at hSw)
            go_simp
            try with_reducible rfl
          simp only [Act.put, List.getElem_toArray, List.getElem_cons_succ, List.getElem_cons_zero, List.setIfInBounds_toArray, List.set_cons_zero, List.set_cons_succ]
          refine wpAnyH_take (i := 19) (v := ?_) rfl (by kernel_rfl) (by kernel_rfl) (by kernel_rfl) (fun _ _ _ h => h) (Or.inl ⟨by rfl, ?_⟩) (by assumption) ?_
          rotate_left
          · intro w hSw
            (try dsimp only at hSw)
            go_simp
            try with_reducible rfl
          simp only [Act.put, List.getElem_toArray, List.getElem_cons_succ, List.getElem_cons_zero, List.setIfInBounds_toArray, List.set_cons_zero, List.set_cons_succ]
          refine wpAnyH_take (i := 20) (v := ?_) rfl (by kernel_rfl) (by kernel_rfl) (by kernel_rfl) (fun _ _ _ h => h) (Or.inl ⟨by rfl, ?_⟩) (by assumption) ?_
          rotate_left
          · intro w hSw
            (try dsimp only at hSw)
            go_simp
            try with_reducible rfl
          simp only [Act.put, List.getElem_toArray, List.getElem_cons_succ, List.getElem_cons_zero, List.setIfInBounds_toArray, List.set_cons_zero, List.set_cons_succ]
          refine wpAnyH_take (i := 21) (v := undef) rfl (by kernel_rfl) (by kernel_rfl) (by kernel_rfl) (fun _ _ _ h => h) (Or.inr ⟨by rfl, rfl⟩) (by assumption) ?_
          simp only [Act.put, List.getElem_toArray, List.getElem_cons_succ, List.getElem_cons_zero, List.setIfInBounds_toArray, List.set_cons_zero, List.set_cons_succ]
          refine wpAnyH_take (i := 22) (v := undef) rfl (by kernel_rfl) (by kernel_rfl) (by kernel_rfl) (fun _ _ _ h => h) (Or.inr ⟨by rfl, rfl⟩) (by assumption) ?_
          simp only [Act.put, List.getElem_toArray, List.getElem_cons_succ, List.getElem_cons_zero, List.setIfInBounds_toArray, List.set_cons_zero, List.set_cons_succ]
          refine wpAnyH_take (i := 23) (v := undef) rfl (by kernel_rfl) (by kernel_rfl) (by kernel_rfl) (fun _ _ _ h => h) (Or.inr ⟨by rfl, rfl⟩) (by assumption) ?_
          simp only [Act.put, List.getElem_toArray, List.getElem_cons_succ, List.getElem_cons_zero, List.setIfInBounds_toArray, List.set_cons_zero, List.set_cons_succ]
          refine wpAnyH_take (i := 24) (v := undef) rfl (by kernel_rfl) (by kernel_rfl) (by kernel_rfl) (fun _ _ _ h => h) (Or.inr ⟨by rfl, rfl⟩) (by assumption) ?_
          simp only [Act.put, List.getElem_toArray, List.getElem_cons_succ, List.getElem_cons_zero, List.setIfInBounds_toArray, List.set_cons_zero, List.set_cons_succ]
          refine wpAnyH_take (i := 25) (v := undef) rfl (by kernel_rfl) (by kernel_rfl) (by kernel_rfl) (fun _ _ _ h => h) (Or.inr ⟨by rfl, rfl⟩) (by assumption) ?_
          simp only [Act.put, List.getElem_toArray, List.getElem_cons_succ, List.getElem_cons_zero, List.setIfInBounds_toArray, List.set_cons_zero, List.set_cons_succ]
          refine wpAnyH_take (i := 26) (v := undef) rfl (by kernel_rfl) (by kernel_rfl) (by kernel_rfl) (fun _ _ _ h => h) (Or.inr ⟨by rfl, rfl⟩) (by assumption) ?_
          simp only [Act.put, List.getElem_toArray, List.getElem_cons_succ, List.getElem_cons_zero, List.setIfInBounds_toArray, List.set_cons_zero, List.set_cons_succ]
          refine wpAnyH_take (i := 27) (v := undef) rfl (by kernel_rfl) (by kernel_rfl) (by kernel_rfl) (fun _ _ _ h => h) (Or.inr ⟨by rfl, rfl⟩) (by assumption) ?_
          simp only [Act.put, List.getElem_toArray, List.getElem_cons_succ, List.getElem_cons_zero, List.setIfInBounds_toArray, List.set_cons_zero, List.set_cons_succ]
          refine wpAnyH_take (i := 28) (v := undef) rfl (by kernel_rfl) (by kernel_rfl) (by kernel_rfl) (fun _ _ _ h => h) (Or.inr ⟨by rfl, rfl⟩) (by assumption) ?_
          simp only [Act.put, List.getElem_toArray, List.getElem_cons_succ, List.getElem_cons_zero, List.setIfInBounds_toArray, List.set_cons_zero, List.set_cons_succ]
          refine wpAnyH_take (i := 29) (v := ?_) rfl (by kernel_rfl) (by kernel_rfl) (by kernel_rfl) (fun _ _ _ h => h) (Or.inl ⟨by rfl, ?_⟩) (by assumption) ?_
          rotate_left
          · intro w hSw
            (try dsimp only at hSw)
            go_simp
            try with_reducible rfl
          simp only [Act.put, List.getElem_toArray, List.getElem_cons_succ, List.getElem_cons_zero, List.setIfInBounds_toArray, List.set_cons_zero, List.set_cons_succ]
          refine wpAnyH_take (i := 30) (v := ?_) rfl (by kernel_rfl) (by kernel_rfl) (by kernel_rfl) (fun _ _ _ h => h) (Or.inl ⟨by rfl, ?_⟩) (by assumption) ?_
          rotate_left
          · intro w hSw
            (try dsimp only at hSw)
            go_simp
            try with_reducible rfl
          simp only [Act.put, List.getElem_toArray, List.getElem_cons_succ, List.getElem_cons_zero, List.setIfInBounds_toArray, List.set_cons_zero, List.set_cons_succ]
          refine wpAnyH_done (by kernel_rfl) ?_ _
          have Bl_6 := Bl_y2
          have Bm_6 := Bm_y2
          have Be_6 := Be_y2
          have K_6 := K_y2
          clear Bl_y1 cl_y1 Bl_y2 cl_y2 Bm_y1 cm_y1 Bm_y2 cm_y2 Be_y1 ce_y1 Be_y2 ce_y2 K_y1 K_y2 hHeld Bl_5 cl_5 zl_5 Bm_5 cm_5 zm_5 Be_5 ce_5 ze_5 K_5
          have cl_6 := blk_cell Bl_6
          have zl_6 := blk_lt Bl_6
          have cm_6 := blk_cell Bm_6
          have zm_6 := blk_lt Bm_6
          have ce_6 := blk_cell Be_6
          have ze_6 := blk_lt Be_6
          go_wp2_with (first
            | ((with_reducible refine at_st 25 ?_); refine wl_store rfl rfl rfl rfl Bl_6 (by kernel_rfl) rfl (Nat.le_of_ble_eq_true rfl) (fun v7 p7 => ?_); have Bl_7 : Blk v7 w.heap.size 25 [.bool true, .int .u8 V.line, .int .u16 V.dot, .int .u8 V.lyc, .int .u8 V.sel, .bool false, .int .u16 V.extra] := p7.blk; have Bm_7 := p7.other _ _ _ nml Bm_6; have Be_7 := p7.other _ _ _ nel Be_6; have K_7 := hid (p7.kept _ K_6.out lel); clear p7 K_6 Bl_6 cl_6 zl_6 Bm_6 cm_6 zm_6 Be_6 ce_6 ze_6; have cl_7 := blk_cell Bl_7; have zl_7 := blk_lt Bl_7; have cm_7 := blk_cell Bm_7; have zm_7 := blk_lt Bm_7; have ce_7 := blk_cell Be_7; have ze_7 := blk_lt Be_7))
          go_roundw
          case rel => exact ⟨j + 1, ⟨true, V.line, V.dot, V.lyc, V.sel, false, V.extra⟩, by omega, by first | go_num | rfl, HV, Bl_7, K_7.out⟩
          case measure => first | omega | (simp; omega) | (simp [intOf]; omega)
        · rw [hw] at hh
          subst hh
          have Bl_0 := hq
          have cl_0 := blk_cell hq
          have zl_0 := blk_lt hq
          clear hq
          have HS := hid (fun u => once_src _ true hR.out hw u)
          have AX := hid (fun u => once_step _ x hR.out rfl true true hw hs x0 x1 u)
          clear hw hs
          go_wp2_with fail
          refine (HS.out _).mono ?_
          rintro e u1 ⟨rfl, k1⟩
          have Bl_1 := blk_kept k1 Bl_0
          have K_1 := hid (K_0.out.trans k1)
          clear k1 Bl_0 cl_0 zl_0
          have cl_1 := blk_cell Bl_1
          have zl_1 := blk_lt Bl_1
          go_wp2_with fail
          refine (AX.out _).mono ?_
          rintro e u2 ⟨⟨V, f, d, rfl, hV, hS⟩, k2⟩
          have HT := hid (fun u => once_src _ true hV hS u)
          have HV := hid hV
          clear hV hS
          have Bl_2 := blk_kept k2 Bl_1
          have K_2 := hid (K_1.out.trans k2)
          clear k2 K_1 Bl_1 cl_1 zl_1
          have cl_2 := blk_cell Bl_2
          have zl_2 := blk_lt Bl_2
          have Bl_3 := blk_past (blk_past Bl_2 (.cells ([.bool false, .int .u8 0, .int .u16 0, .int .u8 0, .int .u8 0, .bool false, .int .u16 0] : List Value).toArray 25)) (.cells ([.bool false, .bool false, .bool false] : List Value).toArray 28)
          have Bm_3 : Blk ((u2.alloc (.cells ([.bool false, .int .u8 0, .int .u16 0, .int .u8 0, .int .u8 0, .bool false, .int .u16 0] : List Value).toArray 25)).alloc (.cells ([.bool false, .bool false, .bool false] : List Value).toArray 28)) u2.heap.size 25 [.bool false, .int .u8 0, .int .u16 0, .int .u8 0, .int .u8 0, .bool false, .int .u16 0] := blk_past (blk_new u2 _ _) _
          have Be_3 : Blk ((u2.alloc (.cells ([.bool false, .int .u8 0, .int .u16 0, .int .u8 0, .int .u8 0, .bool false, .int .u16 0] : List Value).toArray 25)).alloc (.cells ([.bool false, .bool false, .bool false] : List Value).toArray 28)) (u2.heap.size + 1) 28 [.bool false, .bool false, .bool false] := by have q := blk_new (u2.alloc (.cells ([.bool false, .int .u8 0, .int .u16 0, .int .u8 0, .int .u8 0, .bool false, .int .u16 0] : List Value).toArray 25)) [.bool false, .bool false, .bool false] 28; rw [World.size_alloc] at q; exact q
          have K_3 := hid ((K_2.out.alloc (.cells ([.bool false, .int .u8 0, .int .u16 0, .int .u8 0, .int .u8 0, .bool false, .int .u16 0] : List Value).toArray 25)).alloc (.cells ([.bool false, .bool false, .bool false] : List Value).toArray 28))
          have nlm : w.heap.size ≠ u2.heap.size := by omega
          have nml : u2.heap.size ≠ w.heap.size := by omega
          have nle : w.heap.size ≠ u2.heap.size + 1 := by omega
          have nel : u2.heap.size + 1 ≠ w.heap.size := by omega
          have nme : u2.heap.size ≠ u2.heap.size + 1 := by omega
          have nem : u2.heap.size + 1 ≠ u2.heap.size := by omega
          have lem : w.heap.size ≤ u2.heap.size := K_2.out.size
          have lee : w.heap.size ≤ u2.heap.size + 1 := by omega
          clear K_2 Bl_2 cl_2 zl_2
          go_wp2_with (first
            | ((with_reducible refine at_st 25 ?_); refine wl_store rfl rfl rfl rfl Bm_3 (by kernel_rfl) rfl (Nat.le_of_ble_eq_true rfl) (fun v4 p4 => ?_); have Bm_4 : Blk v4 u2.heap.size 25 [.bool true, .int .u8 V.line, .int .u16 V.dot, .int .u8 V.lyc, .int .u8 V.sel, .bool true, .int .u16 V.extra] := p4.blk; have Bl_4 := p4.other _ _ _ nlm Bl_3; have Be_4 := p4.other _ _ _ nem Be_3; have K_4 := hid (p4.kept _ K_3.out lem); clear p4 K_3 Bl_3 Bm_3 Be_3; have cl_4 := blk_cell Bl_4; have zl_4 := blk_lt Bl_4; have cm_4 := blk_cell Bm_4; have zm_4 := blk_lt Bm_4; have ce_4 := blk_cell Be_4; have ze_4 := blk_lt Be_4)
            | ((with_reducible refine at_st 28 ?_); refine wl_store rfl rfl rfl rfl Be_4 (by kernel_rfl) rfl (Nat.le_of_ble_eq_true rfl) (fun v5 p5 => ?_); have Be_5 : Blk v5 (u2.heap.size + 1) 28 [.bool f, .bool false, .bool d] := p5.blk; have Bl_5 := p5.other _ _ _ nle Bl_4; have Bm_5 := p5.other _ _ _ nme Bm_4; have K_5 := hid (p5.kept _ K_4.out lee); clear p5 K_4 Bl_4 cl_4 zl_4 Bm_4 cm_4 zm_4 Be_4 ce_4 ze_4; have cl_5 := blk_cell Bl_5; have zl_5 := blk_lt Bl_5; have cm_5 := blk_cell Bm_5; have zm_5 := blk_lt Bm_5; have ce_5 := blk_cell Be_5; have ze_5 := blk_lt Be_5))
          refine wp_region_held_drew (S := (fun w' => w'.cell? ⟨u2.heap.size, 0, none⟩ = some (.bool true) ∧ w'.cell? ⟨u2.heap.size, 1, none⟩ = some (.int .u8 V.line) ∧ w'.cell? ⟨u2.heap.size, 2, none⟩ = some (.int .u16 V.dot) ∧ w'.cell? ⟨u2.heap.size, 3, none⟩ = some (.int .u8 V.lyc) ∧ w'.cell? ⟨u2.heap.size, 4, none⟩ = some (.int .u8 V.sel) ∧ w'.cell? ⟨u2.heap.size, 5, none⟩ = some (.bool true) ∧ w'.cell? ⟨u2.heap.size, 6, none⟩ = some (.int .u16 V.extra) ∧ w'.cell? ⟨u2.heap.size + 1, 0, none⟩ = some (.bool f) ∧ w'.cell? ⟨u2.heap.size + 1, 1, none⟩ = some (.bool false) ∧ w'.cell? ⟨u2.heap.size + 1, 2, none⟩ = some (.bool d) ∧ w'.cell? ⟨w.heap.size, 0, none⟩ = some (.bool true) ∧ w'.cell? ⟨w.heap.size, 1, none⟩ = some (.int .u8 sl) ∧ w'.cell? ⟨w.heap.size, 2, none⟩ = some (.int .u16 sd) ∧ w'.cell? ⟨w.heap.size, 3, none⟩ = some (.int .u8 sy) ∧ w'.cell? ⟨w.heap.size, 4, none⟩ = some (.int .u8 ss) ∧ w'.cell? ⟨w.heap.size, 5, none⟩ = some (.bool true) ∧ w'.cell? ⟨w.heap.size, 6, none⟩ = some (.int .u16 se))) (by kernel_rfl) (by go_keep) (fun hHeld => ?_)
          refine wpAnyH_take (i := 0) (v := ?_) rfl (by kernel_rfl) (by kernel_rfl) (by kernel_rfl) (fun _ _ _ h => h) (Or.inl ⟨by rfl, ?_⟩) (by assumption) ?_
          rotate_left
          · intro w hSw
            (try dsimp only at hSw)
            go_simp
            try with_reducible rfl
          simp only [Act.put, List.getElem_toArray, List.getElem_cons_succ, List.getElem_cons_zero, List.setIfInBounds_toArray, List.set_cons_zero, List.set_cons_succ]
          refine wpAnyH_take (i := 1) (v := ?_) rfl (by kernel_rfl) (by kernel_rfl) (by kernel_rfl) (fun _ _ _ h => h) (Or.inl ⟨by rfl, ?_⟩) (by assumption) ?_
          rotate_left
          · intro w hSw
            (try dsimp only at hSw)
            go_simp
            try with_reducible rfl
          simp only [Act.put, List.getElem_toArray, List.getElem_cons_succ, List.getElem_cons_zero, List.setIfInBounds_toArray, List.set_cons_zero, List.set_cons_succ]
          refine wpAnyH_take (i := 2) (v := ?_) rfl (by kernel_rfl) (by kernel_rfl) (by kernel_rfl) (fun _ _ _ h => h) (Or.inl ⟨by rfl, ?_⟩) (by assumption) ?_
          rotate_left
          · intro w hSw
            (try dsimp only at hSw)
            go_simp
            try with_reducible rfl
          simp only [Act.put, List.getElem_toArray, List.getElem_cons_succ, List.getElem_cons_zero, List.setIfInBounds_toArray, List.set_cons_zero, List.set_cons_succ]
          refine wpAnyH_ready (rs := [3]) (by kernel_rfl) (by simp) ?_
          refine AllReadyH.cons rfl (fun K hK => ?_) AllReadyH.nil
          go_simp
          refine (HT.out _).mono ?_
          rintro e y1 ⟨rfl, q1⟩
          have Bl_y1 := blk_kept q1 (blk_drew Bl_5)
          have Bm_y1 := blk_kept q1 (blk_drew Bm_5)
          have Be_y1 := blk_kept q1 (blk_drew Be_5)
          have cl_y1 := blk_cell Bl_y1
          have cm_y1 := blk_cell Bm_y1
          have ce_y1 := blk_cell Be_y1
          have K_y1 := hid (K_5.out.drew.trans q1)
          clear q1
          refine hK.out _ _ (by go_keep) (fun hHeld => ?_)
          clear hK K
          try simp only [Act.put, List.getElem_toArray, List.getElem_cons_succ, List.getElem_cons_zero, List.setIfInBounds_toArray, List.set_cons_zero, List.set_cons_succ]
          refine wpAnyH_take (i := 4) (v := ?_) rfl (by kernel_rfl) (by kernel_rfl) (by kernel_rfl) (fun _ _ _ h => h) (Or.inl ⟨by rfl, ?_⟩) (by assumption) ?_
          rotate_left
          · intro w hSw
            (try dsimp only at hSw)
            go_simp
            try with_reducible rfl
          simp only [Act.put, List.getElem_toArray, List.getElem_cons_succ, List.getElem_cons_zero, List.setIfInBounds_toArray, List.set_cons_zero, List.set_cons_succ]
          refine wpAnyH_take (i := 5) (v := ?_) rfl (by kernel_rfl) (by kernel_rfl) (by kernel_rfl) (fun _ _ _ h => h) (Or.inl ⟨by rfl, ?_⟩) (by assumption) ?_
          rotate_left
          · intro w hSw
            (try dsimp only at hSw)
            go_simp
            try with_reducible rfl
          simp only [Act.put, List.getElem_toArray, List.getElem_cons_succ, List.getElem_cons_zero, List.setIfInBounds_toArray, List.set_cons_zero, List.set_cons_succ]
          refine wpAnyH_take (i := 6) (v := ?_) rfl (by kernel_rfl) (by kernel_rfl) (by kernel_rfl) (fun _ _ _ h => h) (Or.inl ⟨by rfl, ?_⟩) (by assumption) ?_
          rotate_left
          · intro w hSw
            (try dsimp only at hSw)
            go_simp
            try with_reducible rfl
          simp only [Act.put, List.getElem_toArray, List.getElem_cons_succ, List.getElem_cons_zero, List.setIfInBounds_toArray, List.set_cons_zero, List.set_cons_succ]
          refine wpAnyH_take (i := 7) (v := ?_) rfl (by kernel_rfl) (by kernel_rfl) (by kernel_rfl) (fun _ _ _ h => h) (Or.inl ⟨by rfl, ?_⟩) (by assumption) ?_
          rotate_left
          · intro w hSw
            (try dsimp only at hSw)
            go_simp
            try with_reducible rfl
          simp only [Act.put, List.getElem_toArray, List.getElem_cons_succ, List.getElem_cons_zero, List.setIfInBounds_toArray, List.set_cons_zero, List.set_cons_succ]
          refine wpAnyH_take (i := 8) (v := ?_) rfl (by kernel_rfl) (by kernel_rfl) (by kernel_rfl) (fun _ _ _ h => h) (Or.inl ⟨by rfl, ?_⟩) (by assumption) ?_
          rotate_left
          · intro w hSw
            (try dsimp only at hSw)
            go_simp
            try with_reducible rfl
          simp only [Act.put, List.getElem_toArray, List.getElem_cons_succ, List.getElem_cons_zero, List.setIfInBounds_toArray, List.set_cons_zero, List.set_cons_succ]
          refine wpAnyH_take (i := 9) (v := ?_) rfl (by kernel_rfl) (by kernel_rfl) (by kernel_rfl) (fun _ _ _ h => h) (Or.inl ⟨by rfl, ?_⟩) (by assumption) ?_
          rotate_left
          · intro w hSw
            (try dsimp only at hSw)
            go_simp
            try with_reducible rfl
          simp only [Act.put, List.getElem_toArray, List.getElem_cons_succ, List.getElem_cons_zero, List.setIfInBounds_toArray, List.set_cons_zero, List.set_cons_succ]
          refine wpAnyH_take (i := 10) (v := ?_) rfl (by kernel_rfl) (by kernel_rfl) (by kernel_rfl) (fun _ _ _ h => h) (Or.inl ⟨by rfl, ?_⟩) (by assumption) ?_
          rotate_left
          · intro w hSw
            (try dsimp only at hSw)
            go_simp
            try with_reducible rfl
          simp only [Act.put, List.getElem_toArray, List.getElem_cons_succ, List.getElem_cons_zero, List.setIfInBounds_toArray, List.set_cons_zero, List.set_cons_succ]
          refine wpAnyH_take (i := 11) (v := ?_) rfl (by kernel_rfl) (by kernel_rfl) (by kernel_rfl) (fun _ _ _ h => h) (Or.inl ⟨by rfl, ?_⟩) (by assumption) ?_
          rotate_left
          · intro w hSw
            (try dsimp only at hSw)
            go_simp
            try with_reducible rfl
          simp only [Act.put, List.getElem_toArray, List.getElem_cons_succ, List.getElem_cons_zero, List.setIfInBounds_toArray, List.set_cons_zero, List.set_cons_succ]
          refine wpAnyH_take (i := 12) (v := ?_) rfl (by kernel_rfl) (by kernel_rfl) (by kernel_rfl) (fun _ _ _ h => h) (Or.inl ⟨by rfl, ?_⟩) (by assumption) ?_
          rotate_left
          · intro w hSw
            (try dsimp only at hSw)
            go_simp
            try with_reducible rfl
          simp only [Act.put, List.getElem_toArray, List.getElem_cons_succ, List.getElem_cons_zero, List.setIfInBounds_toArray, List.set_cons_zero, List.set_cons_succ]
          refine wpAnyH_ready (rs := [13]) (by kernel_rfl) (by simp) ?_
          refine AllReadyH.cons rfl (fun K hK => ?_) AllReadyH.nil
          go_simp
          refine (HT.out _).mono ?_
          rintro e y2 ⟨rfl, q2⟩
          have Bl_y2 := blk_kept q2 Bl_y1
          have Bm_y2 := blk_kept q2 Bm_y1
          have Be_y2 := blk_kept q2 Be_y1
          have cl_y2 := blk_cell Bl_y2
          have cm_y2 := blk_cell Bm_y2
          have ce_y2 := blk_cell Be_y2
          have K_y2 := hid (K_y1.out.trans q2)
          clear q2
          refine hK.out _ _ (by go_keep) (fun hHeld => ?_)
          clear hK K
          try simp only [Act.put, List.getElem_toArray, List.getElem_cons_succ, List.getElem_cons_zero, List.setIfInBounds_toArray, List.set_cons_zero, List.set_cons_succ]
          refine wpAnyH_take (i := 14) (v := ?_) rfl (by kernel_rfl) (by kernel_rfl) (by kernel_rfl) (fun _ _ _ h => h) (Or.inl ⟨by rfl, ?_⟩) (by assumption) ?_
          rotate_left
          · intro w hSw
            (try dsimp only at hSw)
            go_simp
            try with_reducible rfl
          simp only [Act.put, List.getElem_toArray, List.getElem_cons_succ, List.getElem_cons_zero, List.setIfInBounds_toArray, List.set_cons_zero, List.set_cons_succ]
          refine wpAnyH_take (i := 15) (v := ?_) rfl (by kernel_rfl) (by kernel_rfl) (by kernel_rfl) (fun _ _ _ h => h) (Or.inl ⟨by rfl, ?_⟩) (by assumption) ?_
          rotate_left
          · intro w hSw
            (try dsimp only at hSw)
            go_simp
            try with_reducible rfl
          simp only [Act.put, List.getElem_toArray, List.getElem_cons_succ, List.getElem_cons_zero, List.setIfInBounds_toArray, List.set_cons_zero, List.set_cons_succ]
          refine wpAnyH_take (i := 16) (v := ?_) rfl (by kernel_rfl) (by kernel_rfl) (by kernel_rfl) (fun _ _ _ h => h) (Or.inl ⟨by rfl, ?_⟩) (by assumption) ?_
          rotate_left
          · intro w hSw
            (try dsimp only at hSw)
            go_simp
            try with_reducible rfl
          simp only [Act.put, List.getElem_toArray, List.getElem_cons_succ, List.getElem_cons_zero, List.setIfInBounds_toArray, List.set_cons_zero, List.set_cons_succ]
          refine wpAnyH_take (i := 17) (v := ?_) rfl (by kernel_rfl) (by kernel_rfl) (by kernel_rfl) (fun _ _ _ h => h) (Or.inl ⟨by rfl, ?_⟩) (by assumption) ?_
          rotate_left
          · intro w hSw
            (try dsimp only at hSw)
            go_simp
            try with_reducible rfl
          simp only [Act.put, List.getElem_toArray, List.getElem_cons_succ, List.getElem_cons_zero, List.setIfInBounds_toArray, List.set_cons_zero, List.set_cons_succ]
          refine wpAnyH_take (i := 18) (v := ?_) rfl (by kernel_rfl) (by kernel_rfl) (by kernel_rfl) (fun _ _ _ h => h) (Or.inl ⟨by rfl, ?_⟩) (by assumption) ?_
          rotate_left
          · intro w hSw
            (try dsimp only at hSw)
            go_simp
            try with_reducible rfl
          simp only [Act.put, List.getElem_toArray, List.getElem_cons_succ, List.getElem_cons_zero, List.setIfInBounds_toArray, List.set_cons_zero, List.set_cons_succ]
          refine wpAnyH_take (i := 19) (v := ?_) rfl (by kernel_rfl) (by kernel_rfl) (by kernel_rfl) (fun _ _ _ h => h) (Or.inl ⟨by rfl, ?_⟩) (by assumption) ?_
          rotate_left
          · intro w hSw
            (try dsimp only at hSw)
            go_simp
            try with_reducible rfl
          simp only [Act.put, List.getElem_toArray, List.getElem_cons_succ, List.getElem_cons_zero, List.setIfInBounds_toArray, List.set_cons_zero, List.set_cons_succ]
          refine wpAnyH_take (i := 20) (v := ?_) rfl (by kernel_rfl) (by kernel_rfl) (by kernel_rfl) (fun _ _ _ h => h) (Or.inl ⟨by rfl, ?_⟩) (by assumption) ?_
          rotate_left
          · intro w hSw
            (try dsimp only at hSw)
            go_simp
            try with_reducible rfl
          simp only [Act.put, List.getElem_toArray, List.getElem_cons_succ, List.getElem_cons_zero, List.setIfInBounds_toArray, List.set_cons_zero, List.set_cons_succ]
          refine wpAnyH_take (i := 21) (v := undef) rfl (by kernel_rfl) (by kernel_rfl) (by kernel_rfl) (fun _ _ _ h => h) (Or.inr ⟨by rfl, rfl⟩) (by assumption) ?_
          simp only [Act.put, List.getElem_toArray, List.getElem_cons_succ, List.getElem_cons_zero, List.setIfInBounds_toArray, List.set_cons_zero, List.set_cons_succ]
          refine wpAnyH_take (i := 22) (v := undef) rfl (by kernel_rfl) (by kernel_rfl) (by kernel_rfl) (fun _ _ _ h => h) (Or.inr ⟨by rfl, rfl⟩) (by assumption) ?_
          simp only [Act.put, List.getElem_toArray, List.getElem_cons_succ, List.getElem_cons_zero, List.setIfInBounds_toArray, List.set_cons_zero, List.set_cons_succ]
          refine wpAnyH_take (i := 23) (v := undef) rfl (by kernel_rfl) (by kernel_rfl) (by kernel_rfl) (fun _ _ _ h => h) (Or.inr ⟨by rfl, rfl⟩) (by assumption) ?_
          simp only [Act.put, List.getElem_toArray, List.getElem_cons_succ, List.getElem_cons_zero, List.setIfInBounds_toArray, List.set_cons_zero, List.set_cons_succ]
          refine wpAnyH_take (i := 24) (v := undef) rfl (by kernel_rfl) (by kernel_rfl) (by kernel_rfl) (fun _ _ _ h => h) (Or.inr ⟨by rfl, rfl⟩) (by assumption) ?_
          simp only [Act.put, List.getElem_toArray, List.getElem_cons_succ, List.getElem_cons_zero, List.setIfInBounds_toArray, List.set_cons_zero, List.set_cons_succ]
          refine wpAnyH_take (i := 25) (v := undef) rfl (by kernel_rfl) (by kernel_rfl) (by kernel_rfl) (fun _ _ _ h => h) (Or.inr ⟨by rfl, rfl⟩) (by assumption) ?_
          simp only [Act.put, List.getElem_toArray, List.getElem_cons_succ, List.getElem_cons_zero, List.setIfInBounds_toArray, List.set_cons_zero, List.set_cons_succ]
          refine wpAnyH_take (i := 26) (v := undef) rfl (by kernel_rfl) (by kernel_rfl) (by kernel_rfl) (fun _ _ _ h => h) (Or.inr ⟨by rfl, rfl⟩) (by assumption) ?_
          simp only [Act.put, List.getElem_toArray, List.getElem_cons_succ, List.getElem_cons_zero, List.setIfInBounds_toArray, List.set_cons_zero, List.set_cons_succ]
          refine wpAnyH_take (i := 27) (v := undef) rfl (by kernel_rfl) (by kernel_rfl) (by kernel_rfl) (fun _ _ _ h => h) (Or.inr ⟨by rfl, rfl⟩) (by assumption) ?_
          simp only [Act.put, List.getElem_toArray, List.getElem_cons_succ, List.getElem_cons_zero, List.setIfInBounds_toArray, List.set_cons_zero, List.set_cons_succ]
          refine wpAnyH_take (i := 28) (v := undef) rfl (by kernel_rfl) (by kernel_rfl) (by kernel_rfl) (fun _ _ _ h => h) (Or.inr ⟨by rfl, rfl⟩) (by assumption) ?_
          simp only [Act.put, List.getElem_toArray, List.getElem_cons_succ, List.getElem_cons_zero, List.setIfInBounds_toArray, List.set_cons_zero, List.set_cons_succ]
          refine wpAnyH_take (i := 29) (v := ?_) rfl (by kernel_rfl) (by kernel_rfl) (by kernel_rfl) (fun _ _ _ h => h) (Or.inl ⟨by rfl, ?_⟩) (by assumption) ?_
          rotate_left
          · intro w hSw
            (try dsimp only at hSw)
            go_simp
            try with_reducible rfl
          simp only [Act.put, List.getElem_toArray, List.getElem_cons_succ, List.getElem_cons_zero, List.setIfInBounds_toArray, List.set_cons_zero, List.set_cons_succ]
          refine wpAnyH_take (i := 30) (v := ?_) rfl (by kernel_rfl) (by kernel_rfl) (by kernel_rfl) (fun _ _ _ h => h) (Or.inl ⟨by rfl, ?_⟩) (by assumption) ?_
          rotate_left
          · intro w hSw
            (try dsimp only at hSw)
            go_simp
            try with_reducible rfl
          simp only [Act.put, List.getElem_toArray, List.getElem_cons_succ, List.getElem_cons_zero, List.setIfInBounds_toArray, List.set_cons_zero, List.set_cons_succ]
          refine wpAnyH_done (by kernel_rfl) ?_ _
          have Bl_6 := Bl_y2
          have Bm_6 := Bm_y2
          have Be_6 := Be_y2
          have K_6 := K_y2
          clear Bl_y1 cl_y1 Bl_y2 cl_y2 Bm_y1 cm_y1 Bm_y2 cm_y2 Be_y1 ce_y1 Be_y2 ce_y2 K_y1 K_y2 hHeld Bl_5 cl_5 zl_5 Bm_5 cm_5 zm_5 Be_5 ce_5 ze_5 K_5
          have cl_6 := blk_cell Bl_6
          have zl_6 := blk_lt Bl_6
          have cm_6 := blk_cell Bm_6
          have zm_6 := blk_lt Bm_6
          have ce_6 := blk_cell Be_6
          have ze_6 := blk_lt Be_6
          go_wp2_with (first
            | ((with_reducible refine at_st 25 ?_); refine wl_store rfl rfl rfl rfl Bl_6 (by kernel_rfl) rfl (Nat.le_of_ble_eq_true rfl) (fun v7 p7 => ?_); have Bl_7 : Blk v7 w.heap.size 25 [.bool true, .int .u8 V.line, .int .u16 V.dot, .int .u8 V.lyc, .int .u8 V.sel, .bool true, .int .u16 V.extra] := p7.blk; have Bm_7 := p7.other _ _ _ nml Bm_6; have Be_7 := p7.other _ _ _ nel Be_6; have K_7 := hid (p7.kept _ K_6.out lel); clear p7 K_6 Bl_6 cl_6 zl_6 Bm_6 cm_6 zm_6 Be_6 ce_6 ze_6; have cl_7 := blk_cell Bl_7; have zl_7 := blk_lt Bl_7; have cm_7 := blk_cell Bm_7; have zm_7 := blk_lt Bm_7; have ce_7 := blk_cell Be_7; have ze_7 := blk_lt Be_7))
          go_roundw
          case rel => exact ⟨j + 1, ⟨true, V.line, V.dot, V.lyc, V.sel, true, V.extra⟩, by omega, by first | go_num | rfl, HV, Bl_7, K_7.out⟩
          case measure => first | omega | (simp; omega) | (simp [intOf]; omega)
    · have je : j = N := by omega
      subst je
      have g1 : decide ((j : Int) < (j : Int)) = false := decide_eq_false (by omega)
      go_wp2
      go_ret
      exact ⟨rfl, K_0.out⟩
end Go.Proofs.Ytpgdkoiinigepab
