/- Layer 12: SerialEight, as a walk. -/
import Derived.Test.YtblagmninenapaaSw12
import Derived.Deep.RegionWith
import Derived.Deep.CutRange
namespace Go.Proofs.Ytblagmninenapaa
open Go.RowKit
set_option linter.unusedVariables false
set_option linter.unusedSimpArgs false

theorem own_ask' (o i : Int) (j : Nat) (hj : j < 1024) (edge : Bool) : askS (ownE o i j) edge = ((j : Int) == 1023) := by
  rw [own_ask o i j hj edge]
  by_cases z : (j : Int) = 1023
  · rw [decide_eq_true z, z]; rfl
  · rw [decide_eq_false z]; exact (by simpa using z : ((j : Int) == 1023) = false).symm
theorem far_ask' (o i : Int) (j : Nat) (hj : j < 1024) : askS (farE o i j) (decide (j % 128 = 127)) = ((j : Int) == 1023) := by
  rw [far_ask o i j hj, ← own_ask o i j hj true, own_ask' o i j hj true]
theorem step_own (o i : Int) (o0 : 0 ≤ o) (o1 : o ≤ 255) (i0 : 0 ≤ i) (i1 : i ≤ 255) (j : Nat) (hj : j < 1024) (edge : Bool) (u : World) : Calls Try.prog 10 #[srV (ownE o i j), .bool (bitS i (7 - j / 128)), .bool edge] u fun e w' => e = .returned (.tuple #[srV (ownE o i (j + 1)), .bool (bitS o (7 - j / 128)), .bool ((j : Int) == 1023)]) ∧ Kept u w' := by
  have q := pstep12 (ownE o i j) (bitS i (7 - j / 128)) edge u (own_in o i j (by omega) i0 i1)
  rw [own_next o i j hj i0 i1 edge, own_out o i j hj o0 o1 i0 i1, own_ask' o i j hj edge] at q
  exact q
theorem step_far (o i : Int) (o0 : 0 ≤ o) (o1 : o ≤ 255) (i0 : 0 ≤ i) (i1 : i ≤ 255) (j : Nat) (hj : j < 1024) (u : World) : Calls Try.prog 10 #[srV (farE o i j), .bool (bitS i (7 - j / 128)), .bool (decide (j % 128 = 127))] u fun e w' => e = .returned (.tuple #[srV (farE o i (j + 1)), .bool (bitS o (7 - j / 128)), .bool ((j : Int) == 1023)]) ∧ Kept u w' := by
  have q := pstep12 (farE o i j) (bitS i (7 - j / 128)) (decide (j % 128 = 127)) u (far_in o i j (by omega) i0 i1)
  rw [far_next o i j hj i0 i1, far_out o i j hj o0 o1 i0 i1, far_ask' o i j hj] at q
  exact q
theorem wr_first (o : Int) (o0 : 0 ≤ o) (o1 : o ≤ 255) (u : World) : Calls Try.prog 14 #[.agg #[.int .u8 0, .int .u8 0, .int .u8 0, .int .u8 0], .int .u16 65281, .int .u8 o] u fun e w' => e = .returned (.agg #[.int .u8 o, .int .u8 0, .int .u8 0, .int .u8 0]) ∧ Kept u w' :=
  pwrite12 ⟨0, 0, 0, 0⟩ 65281 o u in_a12 (by decide) (by decide) o0 o1
theorem wr_in (o : Int) (o0 : 0 ≤ o) (o1 : o ≤ 255) : SrIn ⟨o, 0, 0, 0⟩ := ⟨o0, o1, Int.le_refl 0, (by decide : (0 : Int) ≤ 255), Int.le_refl 0, (by decide : (0 : Int) ≤ 255), Int.le_refl 0, (by decide : (0 : Int) ≤ 255)⟩
theorem wr_129 (o : Int) (o0 : 0 ≤ o) (o1 : o ≤ 255) (u : World) : Calls Try.prog 14 #[.agg #[.int .u8 o, .int .u8 0, .int .u8 0, .int .u8 0], .int .u16 65282, .int .u8 129] u fun e w' => e = .returned (.agg #[.int .u8 o, .int .u8 129, .int .u8 8, .int .u8 0]) ∧ Kept u w' :=
  pwrite12 ⟨o, 0, 0, 0⟩ 65282 129 u (wr_in o o0 o1) (by decide) (by decide) (by decide) (by decide)
theorem wr_128 (o : Int) (o0 : 0 ≤ o) (o1 : o ≤ 255) (u : World) : Calls Try.prog 14 #[.agg #[.int .u8 o, .int .u8 0, .int .u8 0, .int .u8 0], .int .u16 65282, .int .u8 128] u fun e w' => e = .returned (.agg #[.int .u8 o, .int .u8 128, .int .u8 8, .int .u8 0]) ∧ Kept u w' :=
  pwrite12 ⟨o, 0, 0, 0⟩ 65282 128 u (wr_in o o0 o1) (by decide) (by decide) (by decide) (by decide)
theorem end_in (i : Int) (i0 : 0 ≤ i) (i1 : i ≤ 255) : SrIn ⟨i, 1, 0, 0⟩ := ⟨i0, i1, (by decide : (0 : Int) ≤ 1), (by decide : (1 : Int) ≤ 255), Int.le_refl 0, (by decide : (0 : Int) ≤ 255), Int.le_refl 0, (by decide : (0 : Int) ≤ 255)⟩
theorem own_0 (o i : Int) (o0 : 0 ≤ o) (o1 : o ≤ 255) (i0 : 0 ≤ i) (i1 : i ≤ 255) : ownE o i 0 = ⟨o, 129, 8, 0⟩ := by
  show (⟨dE o i 0, 129, 8, 0⟩ : Sr) = _
  rw [dE_0 o i o0 o1 i0 i1]
theorem far_0 (o i : Int) (o0 : 0 ≤ o) (o1 : o ≤ 255) (i0 : 0 ≤ i) (i1 : i ≤ 255) : farE o i 0 = ⟨o, 128, 8, 0⟩ := by
  show (⟨dE o i 0, 128, 8, 0⟩ : Sr) = _
  rw [dE_0 o i o0 o1 i0 i1]
theorem own_8 (o i : Int) : ownE o i 1024 = ⟨i, 1, 0, 0⟩ := by
  show (⟨dE o i 8, 1, 0, 0⟩ : Sr) = _
  rw [dE_8]
theorem far_8 (o i : Int) : farE o i 1024 = ⟨i, 0, 0, 0⟩ := by
  show (⟨dE o i 8, 0, 0, 0⟩ : Sr) = _
  rw [dE_8]
theorem bit1_fin : ∀ a : Fin 256, ∀ k : Fin 8, (bits .and .u8 ((a.val : Int) / 2 ^ k.val) 1 == 1) = bitS (a.val : Int) k.val := by decide +kernel
theorem bit1 (a : Int) (k : Nat) (a0 : 0 ≤ a) (a1 : a ≤ 255) (hk : k ≤ 7) : (bits .and .u8 (a / 2 ^ k) 1 == 1) = bitS a k := by
  have e := bit1_fin ⟨a.toNat, by omega⟩ ⟨k, by omega⟩
  have e2 : ((a.toNat : Nat) : Int) = a := by omega
  simp only [e2] at e
  exact e
set_option maxRecDepth 100000 in
set_option maxHeartbeats 4000000 in
theorem eight12 (o i n : Int) (w : World) (o0 : 0 ≤ o) (o1 : o ≤ 255) (i0 : 0 ≤ i) (i1 : i ≤ 255) (n0 : 0 ≤ n) (n1 : n ≤ 255) : Calls Try.prog 7 #[.int .u8 o, .int .u8 i, .int .u8 n] w fun e w' => e = .returned (.bool true) ∧ Kept w w' := by
  have S := hid kshown12
  have W1 := hid (wr_first o o0 o1)
  have W2 := hid (wr_129 o o0 o1)
  have A := hid (step_own o i o0 o1 i0 i1)
  have O0 := hid (own_0 o i o0 o1 i0 i1)
  have R1 := hid (fun u => pread12 ⟨i, 1, 0, 0⟩ 65281 u (end_in i i0 i1) (by decide) (by decide))
  have R2 := hid (fun u => pread12 ⟨i, 1, 0, 0⟩ 65282 u (end_in i i0 i1) (by decide) (by decide))
  have r1 : readS ⟨i, 1, 0, 0⟩ 65281 = i := rfl
  have r2 : readS ⟨i, 1, 0, 0⟩ 65282 = 127 := rfl
  rw [r1] at R1
  rw [r2] at R2
  clear r1 r2
  go_enter Try.func7, Try.ntmps7
  go_wp2_with fail
  refine (S.out _).mono ?_
  rintro e u1 ⟨rfl, k1⟩
  go_wp2_with fail
  refine (W1.out _).mono ?_
  rintro e u2 ⟨rfl, k2⟩
  go_wp2_with fail
  refine (W2.out _).mono ?_
  rintro e u3 ⟨rfl, k3⟩
  have Q3 := hid (blk_new u3 [.int .u8 o, .int .u8 129, .int .u8 8, .int .u8 0] 23)
  have K3 := hid (((k1.trans k2).trans k3).alloc (.cells ([.int .u8 o, .int .u8 129, .int .u8 8, .int .u8 0] : List Value).toArray 23))
  obtain ⟨bb, hbb⟩ : ∃ b, u3.heap.size = b := ⟨_, rfl⟩
  have blow : w.heap.size ≤ bb := by have := k1.size; have := k2.size; have := k3.size; omega
  clear k1 k2 k3
  go_wp2_with fail
  rw [hbb] at Q3
  try rw [hbb]
  go_loopw [9] (fun iv wr => ∃ j : Nat, j ≤ 1024 ∧ iv = .int .i64 (j : Int) ∧ Blk wr bb 23 [.int .u8 (ownE o i j).data, .int .u8 (ownE o i j).ctl, .int .u8 (ownE o i j).left, .int .u8 (ownE o i j).ph] ∧ Kept w wr) (fun iv _ => 1024 - (intOf iv).toNat)
  case atStart => exact ⟨0, Nat.zero_le _, rfl, by rw [O0.out]; exact Q3.out, K3.out⟩
  case round =>
    obtain ⟨j, hj, rfl, hq, hk⟩ := hrel
    have KK := hid hk
    have QB := hid hq
    have cq := blk_cell hq
    have zq := blk_lt hq
    clear hq hk Q3 K3
    by_cases hlt : j < 1024
    · have AJ := hid (fun e u => A.out j hlt e u)
      obtain ⟨Q, hQ⟩ : ∃ Q : Nat, j / 128 = Q := ⟨_, rfl⟩
      obtain ⟨K, hK⟩ : ∃ K : Nat, 7 - j / 128 = K := ⟨_, rfl⟩
      obtain ⟨M, hM⟩ : ∃ M : Nat, j % 8 = M := ⟨_, rfl⟩
      rw [hK] at AJ
      have e1 : Int.tdiv (j : Int) 128 = (Q : Int) := by rw [Int.tdiv_eq_ediv_of_nonneg (by omega)]; omega
      have e2 : 7 - (Q : Int) = (K : Int) := by omega
      have e3 : Int.tmod (j : Int) 8 = (M : Int) := by rw [Int.tmod_eq_emod_of_nonneg (by omega)]; omega
      have K7 : K ≤ 7 := by omega
      have M7 : M ≤ 7 := by omega
      have b1 := bit1 i K i0 i1 K7
      have b2 := bit1 o K o0 o1 K7
      have b3 := bit1 n M n0 n1 M7
      have g1 : decide ((j : Int) < 1024) = true := decide_eq_true (by omega)
      clear hQ hK hM
      have lw : w.heap.size ≤ wr.heap.size := KK.out.size
      obtain ⟨V, hV⟩ : ∃ V, ownE o i (j + 1) = V := ⟨_, rfl⟩
      rw [hV] at AJ
      have VE := hid hV
      clear hV
      generalize ownE o i j = U at *
      have m1 : bb ≠ wr.heap.size := by omega
      have m2 : wr.heap.size ≠ bb := by omega
      have NB := hid (show Blk (wr.alloc (.cells ([.int .u8 0, .int .u8 0, .int .u8 0, .int .u8 0] : List Value).toArray 23)).drew wr.heap.size 23 [.int .u8 0, .int .u8 0, .int .u8 0, .int .u8 0] from blk_drew (blk_new wr [.int .u8 0, .int .u8 0, .int .u8 0, .int .u8 0] 23))
      have QBD := hid (show Blk wr.drew bb 23 [.int .u8 U.data, .int .u8 U.ctl, .int .u8 U.left, .int .u8 U.ph] from blk_drew QB.out)
      have QBN := hid (show Blk (wr.alloc (.cells ([.int .u8 0, .int .u8 0, .int .u8 0, .int .u8 0] : List Value).toArray 23)).drew bb 23 [.int .u8 U.data, .int .u8 U.ctl, .int .u8 U.left, .int .u8 U.ph] from blk_drew (blk_past QB.out _))
      go_wp2_with fail
      go_cut [12, 13, 14] from 20 to 58 (fun p x a wx => ∃ gb : Nat, p = .pointer (some ⟨gb, 0, none⟩) ∧ x = .bool (bitS o K) ∧ a = .bool ((j : Int) == 1023) ∧ gb ≠ bb ∧ Blk wx gb 23 [.int .u8 V.data, .int .u8 V.ctl, .int .u8 V.left, .int .u8 V.ph] ∧ Blk wx bb 23 [.int .u8 U.data, .int .u8 U.ctl, .int .u8 U.left, .int .u8 U.ph] ∧ Kept w wx)
      case first =>
        go_region_with (go_at_call 10; refine (AJ.out _ _).mono ?_; rintro e v1 ⟨rfl, q1⟩; first | (have Q5 := blk_kept q1 QBD.out; have c5 := blk_cell Q5; have y5 := blk_lt Q5; have K5 := hid (KK.out.drew.trans q1); have m5 : bb ≠ v1.heap.size := (by omega); have m6 : v1.heap.size ≠ bb := (by omega)) | (have Q5 := blk_kept q1 QBN.out; have c5 := blk_cell Q5; have y5 := blk_lt Q5; have K5 := hid ((KK.out.alloc (.cells ([.int .u8 0, .int .u8 0, .int .u8 0, .int .u8 0] : List Value).toArray 23)).drew.trans q1); have B6 := blk_kept q1 NB.out; have c6 := blk_cell B6; have y6 := blk_lt B6; have f6 := blk_froz B6))
        all_goals
          go_wp2_with fail
        all_goals
          go_meet
        · exact ⟨_, rfl, rfl, rfl, m6, blk_new v1 _ _, blk_past Q5 _, K5.out.alloc _⟩
        all_goals
          have PQ := put_of B6 0 [.int .u8 V.data, .int .u8 V.ctl, .int .u8 V.left, .int .u8 V.ph] (Nat.le_of_ble_eq_true rfl)
          exact ⟨_, rfl, rfl, rfl, m2, PQ.blk, PQ.other _ _ _ m1 Q5, PQ.kept _ K5.out lw⟩
      case rest =>
        obtain ⟨gb, rfl, rfl, rfl, gne, hV, hU, hK⟩ := hcut
        have cV := blk_cell hV
        have cU := blk_cell hU
        have zV := blk_lt hV
        have zU := blk_lt hU
        have KC := hid hK
        clear hK cq zq
        go_wp2_with ((with_reducible refine at_st 23 ?_); refine wl_store rfl rfl rfl rfl hU (by kernel_rfl) rfl (Nat.le_of_ble_eq_true rfl) (fun v4 p4 => ?_); have B4 : Blk v4 bb 23 [.int .u8 V.data, .int .u8 V.ctl, .int .u8 V.left, .int .u8 V.ph] := p4.blk; have K4 := hid (p4.kept _ KC.out blow); clear p4)
        go_roundw
        case rel => exact ⟨j + 1, by omega, by first | go_num | rfl, by rw [VE.out]; exact B4, K4.out⟩
        case measure => first | omega | (simp; omega) | (simp [intOf]; omega)
    · have je : j = 1024 := by omega
      subst je
      have QE : Blk wr bb 23 [.int .u8 i, .int .u8 1, .int .u8 0, .int .u8 0] := by have q := QB.out; rw [own_8] at q; exact q
      have cE := blk_cell QE
      clear cq QB A
      go_wp2_with fail
      refine (R1.out _).mono ?_
      rintro e x1 ⟨rfl, y1⟩
      have QF := blk_kept y1 QE
      have cF := blk_cell QF
      have KF := hid (KK.out.trans y1)
      clear y1 cE zq
      go_wp2_with fail
      refine (R2.out _).mono ?_
      rintro e x2 ⟨rfl, y2⟩
      have KG := hid (KF.out.trans y2)
      clear y2
      go_wp2
      go_ret
      exact ⟨rfl, KG.out⟩
end Go.Proofs.Ytblagmninenapaa
