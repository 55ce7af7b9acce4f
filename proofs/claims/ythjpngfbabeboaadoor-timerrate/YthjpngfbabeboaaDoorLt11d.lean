/- Layer 11: TimerRate, as a walk. -/
import Derived.Test.YthjpngfbabeboaaDoorSw11
namespace Go.Proofs.YthjpngfbabeboaaDoor
open Go.RowKit
set_option linter.unusedVariables false
set_option linter.unusedSimpArgs false

theorem and4_fin : ∀ c : Fin 256, (bits .and .u8 (c.val : Int) 4 != 0) = onT (c.val : Int) := by decide +kernel
theorem and4_on (c : Int) (c0 : 0 ≤ c) (c1 : c ≤ 255) : (bits .and .u8 c 4 != 0) = onT c := fin8 (p := fun c => (bits .and .u8 c 4 != 0) = onT c) and4_fin c c0 c1
theorem per11 (c : Int) (w : World) (c0 : 0 ≤ c) (c1 : c ≤ 255) : Calls Tryd.prog 18 #[.int .u8 c] w fun e w' => e = .returned (.int .i64 (perT c)) ∧ w' = w := by
  have q : c % 4 = 0 ∨ c % 4 = 1 ∨ c % 4 = 2 ∨ c % 4 = 3 := by omega
  have tm : Int.tmod c 4 = c % 4 := Int.tmod_eq_emod_of_nonneg c0
  rcases q with q | q | q | q
  · have E := hid (show perT c = 256 by unfold perT; rw [if_pos q])
    rw [q] at tm
    go_enter Tryd.func18, Tryd.ntmps18
    go_wp2
    go_ret
    exact ⟨by rw [E.out]; rfl, rfl⟩
  · have E := hid (show perT c = 4 by unfold perT; rw [if_neg (by omega), if_pos q])
    rw [q] at tm
    go_enter Tryd.func18, Tryd.ntmps18
    go_wp2
    go_ret
    exact ⟨by rw [E.out]; rfl, rfl⟩
  · have E := hid (show perT c = 16 by unfold perT; rw [if_neg (by omega), if_neg (by omega), if_pos q])
    rw [q] at tm
    go_enter Tryd.func18, Tryd.ntmps18
    go_wp2
    go_ret
    exact ⟨by rw [E.out]; rfl, rfl⟩
  · have E := hid (show perT c = 64 by unfold perT; rw [if_neg (by omega), if_neg (by omega), if_neg (by omega)])
    rw [q] at tm
    go_enter Tryd.func18, Tryd.ntmps18
    go_wp2
    go_ret
    exact ⟨by rw [E.out]; rfl, rfl⟩
theorem rate_in {t : Tm} (I : TmIn t) : TmIn (⟨t.div, t.tima % 200, t.tma, t.tac, 0⟩ : Tm) := ⟨I.d0, I.d1, by show 0 ≤ t.tima % 200; omega, by show t.tima % 200 ≤ 255; omega, I.m0, I.m1, I.c0, I.c1, Int.le_refl 0, (by decide : (0 : Int) ≤ 255)⟩
set_option maxRecDepth 100000 in
set_option maxHeartbeats 4000000 in
theorem rate11 (t : Tm) (n : Int) (w : World) (lay : Lay11 w) (I : TmIn t) (n0 : 0 ≤ n) (n1 : n ≤ 255) : Calls Tryd.prog 8 #[tmV t, .int .u8 n] w fun e w' => e = .returned (.bool true) ∧ Kept w w' := by
  have S := hid (fun u (k : Kept w u) => kshown11 u (lay11_kept lay k))
  have J := rate_in I
  have A := hid (fun j u (k : Kept w u) => pstep11 (stepN (⟨t.div, t.tima % 200, t.tma, t.tac, 0⟩ : Tm) j) u (lay11_kept lay k) (stepN_in J j))
  have PR := hid (fun u => per11 t.tac u I.c0 I.c1)
  have ON := and4_on t.tac I.c0 I.c1
  have e0 : Int.tmod n 8 = n % 8 := Int.tmod_eq_emod_of_nonneg n0
  have e5 : Int.tmod t.tima 200 = t.tima % 200 := Int.tmod_eq_emod_of_nonneg I.a0
  obtain ⟨kk, hk⟩ : ∃ k : Nat, n % 8 = (k : Int) := ⟨(n % 8).toNat, by omega⟩
  have k7 : kk ≤ 7 := by omega
  rw [hk] at e0
  have pp : 4 ≤ perT t.tac ∧ perT t.tac ≤ 256 := by have := per_pw t.tac; rcases pw_cases t.tac with e | e | e | e <;> omega
  obtain ⟨N, hN⟩ : ∃ N : Nat, (kk : Int) * perT t.tac = (N : Int) := ⟨((kk : Int) * perT t.tac).toNat, by have : 0 ≤ (kk : Int) * perT t.tac := Int.mul_nonneg (by omega) (by omega); omega⟩
  have N2 : N ≤ 1792 := by
    have : (kk : Int) * perT t.tac ≤ 7 * 256 := Int.mul_le_mul (by omega) pp.2 (by omega) (by decide)
    omega
  have RA := hid (fun j (h : j ≤ N) => rate_all J rfl kk k7 (show t.tima % 200 < 200 by omega) j (by show (j : Int) ≤ kk * perT t.tac; omega))
  have GA := gone_all J kk
  rw [show ((kk : Int) * perT ((⟨t.div, t.tima % 200, t.tma, t.tac, 0⟩ : Tm)).tac).toNat = N by show ((kk : Int) * perT t.tac).toNat = N; omega] at GA
  have GA : goneT (⟨t.div, t.tima % 200, t.tma, t.tac, 0⟩ : Tm) N = if onT t.tac = true then (kk : Int) else 0 := GA
  have GL := hid (gone_le J kk N (by show (N : Int) ≤ kk * perT t.tac; omega))
  have HG := hid GA
  have e3 : n % 8 = (kk : Int) := hk
  generalize perT t.tac = p at *
  have m1 : wrap64 ((kk : Int) * p) = (N : Int) := by rw [hN]; unfold wrap64; omega
  have m2 : (kk : Int) * p = (N : Int) := hN
  have t2 := I.a0
  clear hk lay GA J hN pp
  go_enter Tryd.func8, Tryd.ntmps8
  go_wp2_with fail
  refine (S.out _ ((Kept.refl w).alloc _)).mono ?_
  rintro e u1 ⟨rfl, k1⟩
  have P1 := blk_kept k1 (blk_new w [.int .u16 t.div, .int .u8 t.tima, .int .u8 t.tma, .int .u8 t.tac, .int .u8 t.st] 24)
  have c1 := blk_cell P1
  have z1 := blk_lt P1
  have P2 := hid (blk_past (blk_past P1 (.cells ([.int .u16 t.div, .int .u8 (t.tima % 200), .int .u8 t.tma, .int .u8 t.tac, .int .u8 0] : List Value).toArray 24)) (.cells ([.int .u16 t.div, .int .u8 (t.tima % 200), .int .u8 t.tma, .int .u8 t.tac, .int .u8 0] : List Value).toArray 24))
  have A2 := hid (blk_past (blk_new u1 [.int .u16 t.div, .int .u8 (t.tima % 200), .int .u8 t.tma, .int .u8 t.tac, .int .u8 0] 24) (.cells ([.int .u16 t.div, .int .u8 (t.tima % 200), .int .u8 t.tma, .int .u8 t.tac, .int .u8 0] : List Value).toArray 24))
  have B2 : Blk ((u1.alloc (.cells ([.int .u16 t.div, .int .u8 (t.tima % 200), .int .u8 t.tma, .int .u8 t.tac, .int .u8 0] : List Value).toArray 24)).alloc (.cells ([.int .u16 t.div, .int .u8 (t.tima % 200), .int .u8 t.tma, .int .u8 t.tac, .int .u8 0] : List Value).toArray 24)) (u1.heap.size + 1) 24 [.int .u16 t.div, .int .u8 (t.tima % 200), .int .u8 t.tma, .int .u8 t.tac, .int .u8 0] := by have q := blk_new (u1.alloc (.cells ([.int .u16 t.div, .int .u8 (t.tima % 200), .int .u8 t.tma, .int .u8 t.tac, .int .u8 0] : List Value).toArray 24)) [.int .u16 t.div, .int .u8 (t.tima % 200), .int .u8 t.tma, .int .u8 t.tac, .int .u8 0] 24; rw [World.size_alloc] at q; exact q
  have B2 := hid B2
  have K2 := hid (((((Kept.refl w).alloc (.cells ([.int .u16 t.div, .int .u8 t.tima, .int .u8 t.tma, .int .u8 t.tac, .int .u8 t.st] : List Value).toArray 24)).trans k1).alloc (.cells ([.int .u16 t.div, .int .u8 (t.tima % 200), .int .u8 t.tma, .int .u8 t.tac, .int .u8 0] : List Value).toArray 24)).alloc (.cells ([.int .u16 t.div, .int .u8 (t.tima % 200), .int .u8 t.tma, .int .u8 t.tac, .int .u8 0] : List Value).toArray 24))
  have nb : w.heap.size ≠ u1.heap.size := by omega
  have nb2 : w.heap.size ≠ u1.heap.size + 1 := by omega
  clear k1 P1
  go_wp2_with fail
  obtain ⟨ab, hab⟩ : ∃ b, u1.heap.size = b := ⟨_, rfl⟩
  obtain ⟨bb, hbb⟩ : ∃ b, u1.heap.size + 1 = b := ⟨_, rfl⟩
  rw [hab] at A2
  rw [hbb] at B2
  try rw [hbb]
  try rw [hab]
  have nab : ab ≠ bb := by omega
  have npb : w.heap.size ≠ bb := by omega
  have blow : w.heap.size ≤ bb := by omega
  go_loopw [9, 10] (fun sv iv wr => ∃ j : Nat, j ≤ N ∧ sv = .bool false ∧ iv = .int .i64 (j : Int) ∧ Blk wr w.heap.size 24 [.int .u16 t.div, .int .u8 t.tima, .int .u8 t.tma, .int .u8 t.tac, .int .u8 t.st] ∧ Blk wr ab 24 [.int .u16 t.div, .int .u8 (t.tima % 200), .int .u8 t.tma, .int .u8 t.tac, .int .u8 0] ∧ Blk wr bb 24 [.int .u16 (stepN (⟨t.div, t.tima % 200, t.tma, t.tac, 0⟩ : Tm) j).div, .int .u8 (stepN (⟨t.div, t.tima % 200, t.tma, t.tac, 0⟩ : Tm) j).tima, .int .u8 (stepN (⟨t.div, t.tima % 200, t.tma, t.tac, 0⟩ : Tm) j).tma, .int .u8 (stepN (⟨t.div, t.tima % 200, t.tma, t.tac, 0⟩ : Tm) j).tac, .int .u8 (stepN (⟨t.div, t.tima % 200, t.tma, t.tac, 0⟩ : Tm) j).st] ∧ Kept w wr) (fun _ iv _ => N - (intOf iv).toNat)
  case atStart => exact ⟨0, Nat.zero_le _, rfl, rfl, P2.out, A2.out, B2.out, K2.out⟩
  case round =>
    obtain ⟨j, hj, rfl, rfl, hp, ha, hq, hk⟩ := hrel
    have KK := hid hk
    have PB := hid hp
    have AB := hid ha
    have QB := hid hq
    have cp := blk_cell hp
    have ca := blk_cell ha
    have cq := blk_cell hq
    have zp := blk_lt hp
    have za := blk_lt ha
    have zq := blk_lt hq
    clear hp hq ha hk c1 P2 A2 B2 K2
    obtain ⟨r1, r2⟩ := RA.out j hj
    by_cases hlt : j < N
    · have g1 : decide ((j : Int) < (N : Int)) = true := decide_eq_true (by omega)
      have AJ := hid (A.out j)
      rw [show askT (stepN (⟨t.div, t.tima % 200, t.tma, t.tac, 0⟩ : Tm) j) = false by unfold askT; rw [r1]; rfl] at AJ
      have SN := hid (show stepN (⟨t.div, t.tima % 200, t.tma, t.tac, 0⟩ : Tm) (j + 1) = stepT (stepN (⟨t.div, t.tima % 200, t.tma, t.tac, 0⟩ : Tm) j) from rfl)
      generalize stepT (stepN (⟨t.div, t.tima % 200, t.tma, t.tac, 0⟩ : Tm) j) = V at *
      generalize stepN (⟨t.div, t.tima % 200, t.tma, t.tac, 0⟩ : Tm) j = U at *
      clear r1 r2
      go_wp2_with fail
      refine (PR.out _).mono ?_
      rintro e u2 ⟨rfl, hu2⟩
      go_wp2_with fail
      try rw [hu2]
      refine (AJ.out _ KK.out).mono ?_
      rintro e u3 ⟨rfl, k3⟩
      have P3 := blk_kept k3 PB.out
      have A3 := blk_kept k3 AB.out
      have Q3 := blk_kept k3 QB.out
      have K3 := hid (KK.out.trans k3)
      clear k3 cp cq ca zp zq za PB QB AB KK hu2
      go_wp2_with (((with_reducible refine at_st 24 ?_); refine wl_store rfl rfl rfl rfl Q3 (by kernel_rfl) rfl (Nat.le_of_ble_eq_true rfl) (fun v4 p4 => ?_); have B4 : Blk v4 bb 24 [.int .u16 V.div, .int .u8 V.tima, .int .u8 V.tma, .int .u8 V.tac, .int .u8 V.st] := p4.blk; have P4 := p4.other _ _ _ npb P3; have A4 := p4.other _ _ _ nab A3; have K4 := hid (p4.kept _ K3.out blow); clear p4))
      go_roundw
      case rel => exact ⟨j + 1, by omega, rfl, by first | go_num | rfl, P4, A4, by rw [SN.out]; exact B4, K4.out⟩
      case measure => first | omega | (simp; omega) | (simp [intOf]; omega)
    · have je : j = N := by omega
      subst je
      have g1 : decide ((j : Int) < (j : Int)) = false := decide_eq_false (by omega)
      rw [HG.out] at r2
      have r2 : (stepN (⟨t.div, t.tima % 200, t.tma, t.tac, 0⟩ : Tm) j).tima = t.tima % 200 + (if onT t.tac = true then (kk : Int) else 0) := r2
      generalize stepN (⟨t.div, t.tima % 200, t.tma, t.tac, 0⟩ : Tm) j = U at *
      cases ho : onT t.tac
      · rw [ho] at ON r2
        rw [if_neg (by decide), Int.add_zero] at r2
        go_wp2_with fail
        refine (PR.out _).mono ?_
        rintro e u2 ⟨rfl, hu2⟩
        go_wp2
        go_ret
        exact ⟨rfl, KK.out⟩
      · rw [ho] at ON r2
        rw [if_pos rfl] at r2
        have m3 : wrap64 (t.tima % 200 + (kk : Int)) = t.tima % 200 + (kk : Int) := by unfold wrap64; omega
        go_wp2_with fail
        refine (PR.out _).mono ?_
        rintro e u2 ⟨rfl, hu2⟩
        go_wp2
        go_ret
        exact ⟨rfl, KK.out⟩
end Go.Proofs.YthjpngfbabeboaaDoor
