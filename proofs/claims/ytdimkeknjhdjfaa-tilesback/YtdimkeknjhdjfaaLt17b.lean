/- Layer 17: TilesBack. -/
import Derived.Test.YtdimkeknjhdjfaaSw17
import Derived.Deep.RegionHeld3
namespace Go.Proofs.Ytdimkeknjhdjfaa
open Go.RowKit
set_option linter.unusedVariables false
set_option linter.unusedSimpArgs false

theorem half17 (a : Int) (j : Nat) (h : j < 8) : a / 2 ^ (8 - j) * 2 + bN a (7 - j) = a / 2 ^ (8 - (j + 1)) := by
  have e : j = 0 ∨ j = 1 ∨ j = 2 ∨ j = 3 ∨ j = 4 ∨ j = 5 ∨ j = 6 ∨ j = 7 := by omega
  have f : (7 : Int) - (j : Int) = ((7 - j : Nat) : Int) := by omega
  rw [f, bN_eq a (7 - j) (by omega)]
  rcases e with rfl | rfl | rfl | rfl | rfl | rfl | rfl | rfl <;> simp only [Nat.reduceSub, Nat.reduceAdd, Int.reducePow] <;> omega
theorem half_bd (a : Int) (j : Nat) (h : j ≤ 8) (h0 : 0 ≤ a) (h1 : a ≤ 255) : 0 ≤ a / 2 ^ (8 - j) ∧ a / 2 ^ (8 - j) ≤ 255 := by
  have p : (0 : Int) < 2 ^ (8 - j) := Int.pow_pos (by decide)
  refine ⟨Int.ediv_nonneg h0 (Int.le_of_lt p), ?_⟩
  have : a / 2 ^ (8 - j) ≤ a := Int.ediv_le_self _ h0
  omega
theorem rowL_at (lo hi : Int) (j : Nat) (h : j < 8) : (rowL lo hi)[j]? = some (.int .u8 (pixP lo hi (j : Int))) := by
  have e : j = 0 ∨ j = 1 ∨ j = 2 ∨ j = 3 ∨ j = 4 ∨ j = 5 ∨ j = 6 ∨ j = 7 := by omega
  rcases e with rfl | rfl | rfl | rfl | rfl | rfl | rfl | rfl <;> rfl
theorem half_0 (a : Int) (h0 : 0 ≤ a) (h1 : a ≤ 255) : a / 2 ^ (8 - 0) = 0 := Int.ediv_eq_zero_of_lt h0 (by show a < 256; omega)
theorem half_8 (a : Int) : a / 2 ^ (8 - 8) = a := by show a / 1 = a; omega
set_option maxRecDepth 100000 in
set_option maxHeartbeats 4000000 in
theorem back17 (lo hi : Int) (w : World) (l0 : 0 ≤ lo) (l1 : lo ≤ 255) (h0 : 0 ≤ hi) (h1 : hi ≤ 255) : Calls Try.prog 6 #[.int .u8 lo, .int .u8 hi] w fun e w' => e = .returned (.bool true) ∧ Kept w w' := by
  have S := hid (fun u => kshown17 u)
  have R0 := fun u => prow17 lo hi u l0 l1 h0 h1
  have PX := hid (fun (j : Nat) u => ppix17 lo hi (j : Int) u l0 l1 h0 h1)
  obtain ⟨x0, x1, x2, x3, x4, x5, x6, x7, hx⟩ : ∃ x0 x1 x2 x3 x4 x5 x6 x7, rowL lo hi = [.int .u8 x0, .int .u8 x1, .int .u8 x2, .int .u8 x3, .int .u8 x4, .int .u8 x5, .int .u8 x6, .int .u8 x7] := ⟨_, _, _, _, _, _, _, _, rfl⟩
  have RA0 := fun j => rowL_at lo hi j
  simp only [hx] at R0 RA0
  have RA := hid RA0
  have R := hid R0
  clear R0 RA0 hx
  go_enter Try.func6, Try.ntmps6
  have K0 := hid (Kept.refl w)
  go_wp2_with fail
  refine (S.out _).mono ?_
  rintro e u1 ⟨rfl, k1⟩
  go_wp2_with fail
  refine (R.out _).mono ?_
  rintro e u2 ⟨rfl, k2⟩
  have K2 := hid (k1.trans k2)
  clear k1 k2 K0
  obtain ⟨b, hb⟩ : ∃ b, u2.heap.size = b := ⟨_, rfl⟩
  have BN := hid (blk_new u2 ([.int .u8 x0, .int .u8 x1, .int .u8 x2, .int .u8 x3, .int .u8 x4, .int .u8 x5, .int .u8 x6, .int .u8 x7] : List Value) 24)
  have K3 := hid (K2.out.alloc (.cells ([.int .u8 x0, .int .u8 x1, .int .u8 x2, .int .u8 x3, .int .u8 x4, .int .u8 x5, .int .u8 x6, .int .u8 x7] : List Value).toArray 24))
  rw [hb] at BN
  go_wp2_with fail
  try rw [hb]
  go_loopw [7, 8, 9] (fun va vb vi wr => ∃ j : Nat, j ≤ 8 ∧ va = .int .i64 (lo / 2 ^ (8 - j)) ∧ vb = .int .i64 (hi / 2 ^ (8 - j)) ∧ vi = .int .i64 (j : Int) ∧ Blk wr b 24 ([.int .u8 x0, .int .u8 x1, .int .u8 x2, .int .u8 x3, .int .u8 x4, .int .u8 x5, .int .u8 x6, .int .u8 x7] : List Value) ∧ Kept w wr) (fun _ _ vi _ => 8 - (intOf vi).toNat)
  case atStart => exact ⟨0, Nat.zero_le _, by rw [half_0 lo l0 l1], by rw [half_0 hi h0 h1], rfl, BN.out, K3.out⟩
  case round =>
    obtain ⟨j, hj, rfl, rfl, rfl, hbl, hk⟩ := hrel
    have BB := hid hbl
    have KK := hid hk
    have bda := half_bd lo j hj l0 l1
    have bdb := half_bd hi j hj h0 h1
    clear hbl hk BN K3 K2
    by_cases hlt : j < 8
    · have CJ := blk_cell BB.out j
      rw [RA.out j hlt] at CJ
      have zb := blk_lt BB.out
      have PJ := hid (fun u => PX.out j u)
      have NA := hid (half17 lo j hlt)
      have NB := hid (half17 hi j hlt)
      have VE := hid (pix_in lo hi (j : Int) (by omega) (by omega))
      have xb := bN_bd lo (7 - (j : Int))
      have yb := bN_bd hi (7 - (j : Int))
      generalize bN lo (7 - (j : Int)) = x at *
      generalize bN hi (7 - (j : Int)) = y at *
      generalize hvw : pixP lo hi (j : Int) = v at *
      have VW := hid hvw
      clear hvw
      generalize lo / 2 ^ (8 - j) = la at *
      generalize hi / 2 ^ (8 - j) = lb at *
      have v3 : v ≤ 3 := by have := VE.out; omega
      have v0 : 0 ≤ v := by have := VE.out; omega
      have i0 : (0 : Int) ≤ (j : Int) := by omega
      have i1 : (j : Int) < 8 := by omega
      have g1 : decide ((j : Int) < 8) = true := decide_eq_true (by omega)
      have g2 : decide (3 < v) = false := decide_eq_false (by omega)
      have e1 : IntKind.i64.wrap ((j : Int) + 1) = (j : Int) + 1 := by rw [IntKind.wrap_i64]; omega
      have e2 : IntKind.i64.wrap (2 * la) = 2 * la := by rw [IntKind.wrap_i64]; omega
      have e3 : IntKind.i64.wrap (2 * lb) = 2 * lb := by rw [IntKind.wrap_i64]; omega
      have e4 : Int.tmod v 2 = x := by rw [Int.tmod_eq_emod_of_nonneg v0]; have := VE.out; omega
      have e5 : Int.tdiv v 2 = y := by rw [Int.tdiv_eq_ediv_of_nonneg v0]; have := VE.out; omega
      have e6 : IntKind.i64.wrap (2 * la + x) = 2 * la + x := by rw [IntKind.wrap_i64]; omega
      have e7 : IntKind.i64.wrap (2 * lb + y) = 2 * lb + y := by rw [IntKind.wrap_i64]; omega
      have e8 : IntKind.i64.wrap x = x := by rw [IntKind.wrap_i64]; omega
      have e9 : IntKind.i64.wrap y = y := by rw [IntKind.wrap_i64]; omega
      have e10 : IntKind.u8.wrap y = y := by rw [IntKind.wrap_u8]; omega
      have m1 : v % 2 = x := by have := VE.out; omega
      have m2 : v / 2 = y := by have := VE.out; omega
      go_wp2_with fail
      refine wp_region_held_drew (S := (fun w' => w'.cell? ⟨b, j, none⟩ = some (.int .u8 v))) (by kernel_rfl) (by go_keep) (fun hHeld => ?_)
      refine wpAnyH_take (i := 0) (v := ?_) rfl (by kernel_rfl) (by kernel_rfl) (by kernel_rfl) (fun _ _ _ h => h) (Or.inl ⟨by rfl, ?_⟩) (by assumption) ?_
      rotate_left
      · intro w hSw
        (try dsimp only at hSw)
        go_simp
        try with_reducible rfl
      simp only [Act.put, List.getElem_toArray, List.getElem_cons_succ, List.getElem_cons_zero, List.setIfInBounds_toArray, List.set_cons_zero, List.set_cons_succ]
      refine wpAnyH_take (i := 1) (v := ?_) rfl (by kernel_rfl) (by kernel_rfl) (by kernel_rfl) (fun _ _ _ h => h) (Or.inl ⟨by rfl, ?_⟩) (by assumption) ?_
      rotate_left
      · intro w hSw
        (try dsimp only at hSw)
        go_simp
        try with_reducible rfl
      simp only [Act.put, List.getElem_toArray, List.getElem_cons_succ, List.getElem_cons_zero, List.setIfInBounds_toArray, List.set_cons_zero, List.set_cons_succ]
      refine wpAnyH_take (i := 2) (v := ?_) rfl (by kernel_rfl) (by kernel_rfl) (by kernel_rfl) (fun _ _ _ h => h) (Or.inl ⟨by rfl, ?_⟩) (by assumption) ?_
      rotate_left
      · intro w hSw
        (try dsimp only at hSw)
        go_simp
        try with_reducible rfl
      simp only [Act.put, List.getElem_toArray, List.getElem_cons_succ, List.getElem_cons_zero, List.setIfInBounds_toArray, List.set_cons_zero, List.set_cons_succ]
      refine wpAnyH_take (i := 3) (v := ?_) rfl (by kernel_rfl) (by kernel_rfl) (by kernel_rfl) (fun _ _ _ h => h) (Or.inl ⟨by rfl, ?_⟩) (by assumption) ?_
      rotate_left
      · intro w hSw
        (try dsimp only at hSw)
        go_simp
        try with_reducible rfl
      simp only [Act.put, List.getElem_toArray, List.getElem_cons_succ, List.getElem_cons_zero, List.setIfInBounds_toArray, List.set_cons_zero, List.set_cons_succ]
      refine wpAnyH_take (i := 4) (v := ?_) rfl (by kernel_rfl) (by kernel_rfl) (by kernel_rfl) (fun _ _ _ h => h) (Or.inl ⟨by rfl, ?_⟩) (by assumption) ?_
      rotate_left
      · intro w hSw
        (try dsimp only at hSw)
        go_simp
        try with_reducible rfl
      simp only [Act.put, List.getElem_toArray, List.getElem_cons_succ, List.getElem_cons_zero, List.setIfInBounds_toArray, List.set_cons_zero, List.set_cons_succ]
      refine wpAnyH_take (i := 5) (v := ?_) rfl (by kernel_rfl) (by kernel_rfl) (by kernel_rfl) (fun _ _ _ h => h) (Or.inl ⟨by rfl, ?_⟩) (by assumption) ?_
      rotate_left
      · intro w hSw
        (try dsimp only at hSw)
        go_simp
        try with_reducible rfl
      simp only [Act.put, List.getElem_toArray, List.getElem_cons_succ, List.getElem_cons_zero, List.setIfInBounds_toArray, List.set_cons_zero, List.set_cons_succ]
      refine wpAnyH_take (i := 6) (v := ?_) rfl (by kernel_rfl) (by kernel_rfl) (by kernel_rfl) (fun _ _ _ h => h) (Or.inl ⟨by rfl, ?_⟩) (by assumption) ?_
      rotate_left
      · intro w hSw
        (try dsimp only at hSw)
        go_simp
        try with_reducible rfl
      simp only [Act.put, List.getElem_toArray, List.getElem_cons_succ, List.getElem_cons_zero, List.setIfInBounds_toArray, List.set_cons_zero, List.set_cons_succ]
      refine wpAnyH_take (i := 7) (v := ?_) rfl (by kernel_rfl) (by kernel_rfl) (by kernel_rfl) (fun _ _ _ h => h) (Or.inl ⟨by rfl, ?_⟩) (by assumption) ?_
      rotate_left
      · intro w hSw
        (try dsimp only at hSw)
        go_simp
        try with_reducible rfl
      simp only [Act.put, List.getElem_toArray, List.getElem_cons_succ, List.getElem_cons_zero, List.setIfInBounds_toArray, List.set_cons_zero, List.set_cons_succ]
      refine wpAnyH_take (i := 8) (v := ?_) rfl (by kernel_rfl) (by kernel_rfl) (by kernel_rfl) (fun _ _ _ h => h) (Or.inl ⟨by rfl, ?_⟩) (by assumption) ?_
      rotate_left
      · intro w hSw
        (try dsimp only at hSw)
        go_simp
        try with_reducible rfl
      simp only [Act.put, List.getElem_toArray, List.getElem_cons_succ, List.getElem_cons_zero, List.setIfInBounds_toArray, List.set_cons_zero, List.set_cons_succ]
      refine wpAnyH_take (i := 9) (v := ?_) rfl (by kernel_rfl) (by kernel_rfl) (by kernel_rfl) (fun _ _ _ h => h) (Or.inl ⟨by rfl, ?_⟩) (by assumption) ?_
      rotate_left
      · intro w hSw
        (try dsimp only at hSw)
        go_simp
        try with_reducible rfl
      simp only [Act.put, List.getElem_toArray, List.getElem_cons_succ, List.getElem_cons_zero, List.setIfInBounds_toArray, List.set_cons_zero, List.set_cons_succ]
      refine wpAnyH_take (i := 10) (v := ?_) rfl (by kernel_rfl) (by kernel_rfl) (by kernel_rfl) (fun _ _ _ h => h) (Or.inl ⟨by rfl, ?_⟩) (by assumption) ?_
      rotate_left
      · intro w hSw
        (try dsimp only at hSw)
        go_simp
        try with_reducible rfl
      simp only [Act.put, List.getElem_toArray, List.getElem_cons_succ, List.getElem_cons_zero, List.setIfInBounds_toArray, List.set_cons_zero, List.set_cons_succ]
      refine wpAnyH_ready (rs := [11]) (by kernel_rfl) (by simp) ?_
      refine AllReadyH.cons rfl (fun K hK => ?_) AllReadyH.nil
      go_simp
      refine (PJ.out _).mono ?_
      rintro e v1 ⟨rfl, q1⟩
      have B4 := hid (blk_kept q1 (blk_drew BB.out))
      have K4 := hid (KK.out.drew.trans q1)
      have c4 := blk_cell B4.out j
      rw [RA.out j hlt] at c4
      rw [VW.out] at c4
      have z4 := blk_lt B4.out
      clear q1
      refine hK.out _ _ (by go_keep) (fun hHeld => ?_)
      clear hK K
      try simp only [Act.put, List.getElem_toArray, List.getElem_cons_succ, List.getElem_cons_zero, List.setIfInBounds_toArray, List.set_cons_zero, List.set_cons_succ]
      refine wpAnyH_take (i := 12) (v := ?_) rfl (by kernel_rfl) (by kernel_rfl) (by kernel_rfl) (fun _ _ _ h => h) (Or.inl ⟨by rfl, ?_⟩) (by assumption) ?_
      rotate_left
      · intro w hSw
        (try dsimp only at hSw)
        go_simp
        try with_reducible rfl
      simp only [Act.put, List.getElem_toArray, List.getElem_cons_succ, List.getElem_cons_zero, List.setIfInBounds_toArray, List.set_cons_zero, List.set_cons_succ]
      refine wpAnyH_take (i := 13) (v := ?_) rfl (by kernel_rfl) (by kernel_rfl) (by kernel_rfl) (fun _ _ _ h => h) (Or.inl ⟨by rfl, ?_⟩) (by assumption) ?_
      rotate_left
      · intro w hSw
        (try dsimp only at hSw)
        go_simp
        try with_reducible rfl
      simp only [Act.put, List.getElem_toArray, List.getElem_cons_succ, List.getElem_cons_zero, List.setIfInBounds_toArray, List.set_cons_zero, List.set_cons_succ]
      refine wpAnyH_done (by kernel_rfl) ?_ _
      go_wp2_with fail
      go_roundw
      case rel => exact ⟨j + 1, by omega, by rw [← NA.out]; first | rfl | (congr 1; omega), by rw [← NB.out]; first | rfl | (congr 1; omega), by first | go_num | rfl, B4.out, K4.out⟩
      case measure => first | omega | (simp; omega) | (simp [intOf]; omega)
    · have je : j = 8 := by omega
      subst je
      simp only [half_8]
      go_wp2
      go_ret
      exact ⟨rfl, KK.out⟩
end Go.Proofs.Ytdimkeknjhdjfaa
