/- Layer 11: TimerDivs, TimerRate, as walks. -/
import Derived.Test.YthjpngfbabeboaaDoorSw11
namespace Go.Proofs.YthjpngfbabeboaaDoor
open Go.RowKit
set_option linter.unusedVariables false
set_option linter.unusedSimpArgs false

set_option maxRecDepth 100000 in
set_option maxHeartbeats 4000000 in
theorem divs11 (t : Tm) (n : Int) (w : World) (lay : Lay11 w) (I : TmIn t) (n0 : 0 ≤ n) (n1 : n ≤ 65535) : Calls Tryd.prog 7 #[tmV t, .int .u16 n] w fun e w' => e = .returned (.bool true) ∧ Kept w w' := by
  have S := hid (fun u (k : Kept w u) => kshown11 u (lay11_kept lay k))
  have A := hid (fun j u (k : Kept w u) => pstep11 (stepN t j) u (lay11_kept lay k) (stepN_in I j))
  have SD := hid (fun j => stepN_div I j)
  have d0 := I.d0
  have d1 := I.d1
  have e0 : Int.tmod n 2000 = n % 2000 := Int.tmod_eq_emod_of_nonneg n0
  obtain ⟨N, hN⟩ : ∃ N : Nat, n % 2000 = (N : Int) := ⟨(n % 2000).toNat, by omega⟩
  have N2 : N < 2000 := by omega
  rw [hN] at e0
  have e1 : IntKind.u16.wrap (4 * (N : Int)) = 4 * (N : Int) := by rw [IntKind.wrap_u16]; omega
  have e2 : IntKind.u16.wrap (t.div + 4 * (N : Int)) = (t.div + 4 * (N : Int)) % 65536 := by rw [IntKind.wrap_u16]
  have e3 : n % 2000 = (N : Int) := hN
  clear hN lay
  go_enter Tryd.func7, Tryd.ntmps7
  go_wp2_with fail
  refine (S.out _ ((Kept.refl w).alloc _)).mono ?_
  rintro e u1 ⟨rfl, k1⟩
  have P1 := blk_kept k1 (blk_new w [.int .u16 t.div, .int .u8 t.tima, .int .u8 t.tma, .int .u8 t.tac, .int .u8 t.st] 24)
  have c1 := blk_cell P1
  have z1 := blk_lt P1
  have P2 := hid (blk_past P1 (.cells ([.int .u16 t.div, .int .u8 t.tima, .int .u8 t.tma, .int .u8 t.tac, .int .u8 t.st] : List Value).toArray 24))
  have Q2 := hid (blk_new u1 [.int .u16 t.div, .int .u8 t.tima, .int .u8 t.tma, .int .u8 t.tac, .int .u8 t.st] 24)
  have K2 := hid ((((Kept.refl w).alloc (.cells ([.int .u16 t.div, .int .u8 t.tima, .int .u8 t.tma, .int .u8 t.tac, .int .u8 t.st] : List Value).toArray 24)).trans k1).alloc (.cells ([.int .u16 t.div, .int .u8 t.tima, .int .u8 t.tma, .int .u8 t.tac, .int .u8 t.st] : List Value).toArray 24))
  obtain ⟨bb, hbb⟩ : ∃ b, u1.heap.size = b := ⟨_, rfl⟩
  have nb : w.heap.size ≠ bb := by omega
  have blow : w.heap.size ≤ bb := by omega
  clear k1 P1
  go_wp2_with fail
  rw [hbb] at Q2
  try rw [hbb]
  go_loopw [7] (fun iv wr => ∃ j : Nat, j ≤ N ∧ iv = .int .u16 (j : Int) ∧ Blk wr w.heap.size 24 [.int .u16 t.div, .int .u8 t.tima, .int .u8 t.tma, .int .u8 t.tac, .int .u8 t.st] ∧ Blk wr bb 24 [.int .u16 (stepN t j).div, .int .u8 (stepN t j).tima, .int .u8 (stepN t j).tma, .int .u8 (stepN t j).tac, .int .u8 (stepN t j).st] ∧ Kept w wr) (fun iv _ => N - (intOf iv).toNat)
  case atStart => exact ⟨0, Nat.zero_le _, rfl, P2.out, Q2.out, K2.out⟩
  case round =>
    obtain ⟨j, hj, rfl, hp, hq, hk⟩ := hrel
    have KK := hid hk
    have PB := hid hp
    have QB := hid hq
    have cp := blk_cell hp
    have cq := blk_cell hq
    have zp := blk_lt hp
    have zq := blk_lt hq
    clear hp hq hk c1 P2 Q2 K2
    by_cases hlt : j < N
    · have g1 : decide ((j : Int) < (N : Int)) = true := decide_eq_true (by omega)
      have w1 : IntKind.u16.wrap ((j : Int) + 1) = (j : Int) + 1 := by rw [IntKind.wrap_u16]; omega
      have AJ := hid (A.out j)
      have SN := hid (show stepN t (j + 1) = stepT (stepN t j) from rfl)
      generalize stepT (stepN t j) = V at *
      generalize stepN t j = U at *
      go_wp2_with fail
      refine (AJ.out _ KK.out).mono ?_
      rintro e u3 ⟨rfl, k3⟩
      have P3 := blk_kept k3 PB.out
      have Q3 := blk_kept k3 QB.out
      have K3 := hid (KK.out.trans k3)
      clear k3 cp cq zp zq PB QB KK
      go_wp2_with (((with_reducible refine at_st 24 ?_); refine wl_store rfl rfl rfl rfl Q3 (by kernel_rfl) rfl (Nat.le_of_ble_eq_true rfl) (fun v4 p4 => ?_); have B4 : Blk v4 bb 24 [.int .u16 V.div, .int .u8 V.tima, .int .u8 V.tma, .int .u8 V.tac, .int .u8 V.st] := p4.blk; have P4 := p4.other _ _ _ nb P3; have K4 := hid (p4.kept _ K3.out blow); clear p4))
      go_roundw
      case rel => exact ⟨j + 1, by omega, by first | go_num | rfl, P4, by rw [SN.out]; exact B4, K4.out⟩
      case measure => first | omega | (simp; omega) | (simp [intOf]; omega)
    · have je : j = N := by omega
      subst je
      have g1 : decide ((j : Int) < (j : Int)) = false := decide_eq_false (by omega)
      obtain ⟨s1, s2, s3⟩ := SD.out j
      generalize stepN t j = U at *
      go_wp2
      go_ret
      exact ⟨rfl, KK.out⟩
end Go.Proofs.YthjpngfbabeboaaDoor
