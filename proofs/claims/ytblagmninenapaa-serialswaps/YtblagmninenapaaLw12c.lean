/- Layer 12: SerialSwaps, as a walk. -/
import Derived.Test.YtblagmninenapaaLw12b
namespace Go.Proofs.Ytblagmninenapaa
open Go.RowKit
set_option linter.unusedVariables false
set_option linter.unusedSimpArgs false

def askN (j : Nat) : Int := if j = 1024 then 1 else 0
theorem askN_0 (j : Nat) (h : j < 1024) : askN j = 0 := by unfold askN; rw [if_neg (by omega)]
theorem over_own (o i : Int) (o0 : 0 ≤ o) (o1 : o ≤ 255) (i0 : 0 ≤ i) (i1 : i ≤ 255) (j : Nat) (hj : j < 1024) : decide (127 < (ownE o i j).data) = bitS o (7 - j / 128) := own_out o i j hj o0 o1 i0 i1
theorem over_far (o i : Int) (o0 : 0 ≤ o) (o1 : o ≤ 255) (i0 : 0 ≤ i) (i1 : i ≤ 255) (j : Nat) (hj : j < 1024) : decide (127 < (farE o i j).data) = bitS o (7 - j / 128) := far_out o i j hj o0 o1 i0 i1
set_option maxRecDepth 100000 in
set_option maxHeartbeats 4000000 in
theorem swaps12 (a b : Int) (w : World) (a0 : 0 ≤ a) (a1 : a ≤ 255) (b0 : 0 ≤ b) (b1 : b ≤ 255) : Calls Try.prog 8 #[.int .u8 a, .int .u8 b] w fun e w' => e = .returned (.bool true) ∧ Kept w w' := by
  have S := hid kshown12
  have W1 := hid (wr_first a a0 a1)
  have W2 := hid (wr_129 a a0 a1)
  have W3 := hid (wr_first b b0 b1)
  have W4 := hid (wr_128 b b0 b1)
  have A := hid (step_own a b a0 a1 b0 b1)
  have B := hid (step_far b a b0 b1 a0 a1)
  have O0 := hid (own_0 a b a0 a1 b0 b1)
  have F0 := hid (far_0 b a b0 b1 a0 a1)
  go_enter Try.func8, Try.ntmps8
  go_wp2_with fail
  refine (S.out _).mono ?_
  rintro e u1 ⟨rfl, k1⟩
  go_wp2_with fail
  refine (W1.out _).mono ?_
  rintro e u2 ⟨rfl, k2⟩
  go_wp2_with fail
  refine (W2.out _).mono ?_
  rintro e u3 ⟨rfl, k3⟩
  have Q3 := hid (blk_new u3 [.int .u8 a, .int .u8 129, .int .u8 8, .int .u8 0] 23)
  have K3 := hid (((k1.trans k2).trans k3).alloc (.cells ([.int .u8 a, .int .u8 129, .int .u8 8, .int .u8 0] : List Value).toArray 23))
  have low3 : w.heap.size ≤ u3.heap.size := by have := k1.size; have := k2.size; have := k3.size; omega
  clear k1 k2 k3
  go_wp2_with fail
  refine (W3.out _).mono ?_
  rintro e u6 ⟨rfl, k6⟩
  go_wp2_with fail
  refine (W4.out _).mono ?_
  rintro e u7 ⟨rfl, k7⟩
  have S7 := hid (blk_past (blk_kept (k6.trans k7) Q3.out) (.cells ([.int .u8 b, .int .u8 128, .int .u8 8, .int .u8 0] : List Value).toArray 23))
  have T7 := hid (blk_new u7 [.int .u8 b, .int .u8 128, .int .u8 8, .int .u8 0] 23)
  have K7 := hid ((K3.out.trans (k6.trans k7)).alloc (.cells ([.int .u8 b, .int .u8 128, .int .u8 8, .int .u8 0] : List Value).toArray 23))
  have lt7 := blk_lt (blk_kept (k6.trans k7) Q3.out)
  obtain ⟨bs, hbs⟩ : ∃ b, u3.heap.size = b := ⟨_, rfl⟩
  obtain ⟨bt, hbt⟩ : ∃ b, u7.heap.size = b := ⟨_, rfl⟩
  clear k6 k7 Q3 K3
  go_wp2_with fail
  rw [hbs] at S7 lt7 low3
  rw [hbt] at T7 lt7
  try rw [hbs]
  try rw [hbt]
  have nst : bs ≠ bt := by omega
  have nts : bt ≠ bs := by omega
  have lowS : w.heap.size ≤ bs := low3
  have lowT : w.heap.size ≤ bt := by omega
  go_loopw [8, 9] (fun sv iv wr => ∃ j : Nat, j ≤ 1024 ∧ sv = .int .i64 (askN j) ∧ iv = .int .i64 (j : Int) ∧ Blk wr bs 23 [.int .u8 (ownE a b j).data, .int .u8 (ownE a b j).ctl, .int .u8 (ownE a b j).left, .int .u8 (ownE a b j).ph] ∧ Blk wr bt 23 [.int .u8 (farE b a j).data, .int .u8 (farE b a j).ctl, .int .u8 (farE b a j).left, .int .u8 (farE b a j).ph] ∧ Kept w wr) (fun _ iv _ => 1024 - (intOf iv).toNat)
  case atStart => exact ⟨0, Nat.zero_le _, rfl, rfl, by rw [O0.out]; exact S7.out, by rw [F0.out]; exact T7.out, K7.out⟩
  case round =>
    obtain ⟨j, hj, rfl, rfl, hs, ht, hk⟩ := hrel
    have KK := hid hk
    have SB := hid hs
    have TB := hid ht
    have cs := blk_cell hs
    have ct := blk_cell ht
    have zs := blk_lt hs
    have zt := blk_lt ht
    clear hs ht hk S7 T7 K7
    by_cases hlt : j < 1024
    · by_cases hl : j = 1023
      · have AX := hid (fun u => A.out j hlt false u)
        have AY := hid (fun u => B.out j hlt u)
        have f1 := over_far b a b0 b1 a0 a1 j hlt
        have f2 := over_own a b a0 a1 b0 b1 j hlt
        have f3 := own_left a b j hlt
        have g1 : decide ((j : Int) < 1024) = true := decide_eq_true (by omega)
        have g2 : ((j : Int) == 1023) = true := by rw [hl]; rfl
        rw [g2] at AX AY
        obtain ⟨X, hX⟩ : ∃ X, ownE a b (j + 1) = X := ⟨_, rfl⟩
        obtain ⟨Y, hY⟩ : ∃ Y, farE b a (j + 1) = Y := ⟨_, rfl⟩
        rw [hX] at AX f3
        rw [hY] at AY
        have XE := hid hX
        have YE := hid hY
        have N0 := hid (askN_0 j hlt)
        have N1 := hid (show askN (j + 1) = 1 by unfold askN; rw [if_pos (by omega)])
        clear hX hY
        generalize bitS a (7 - j / 128) = ba at *
        generalize bitS b (7 - j / 128) = bb at *
        generalize decide (j % 128 = 127) = ed at *
        generalize ownE a b j = U at *
        generalize farE b a j = T at *
        rw [N0.out]
        go_wp2_with fail
        refine (AX.out _).mono ?_
        rintro e u4 ⟨rfl, k4⟩
        have S4 := blk_past (blk_kept k4 SB.out) (.cells ([.int .u8 X.data, .int .u8 X.ctl, .int .u8 X.left, .int .u8 X.ph] : List Value).toArray 23)
        have T4 := blk_past (blk_kept k4 TB.out) (.cells ([.int .u8 X.data, .int .u8 X.ctl, .int .u8 X.left, .int .u8 X.ph] : List Value).toArray 23)
        have X4 := blk_new u4 [.int .u8 X.data, .int .u8 X.ctl, .int .u8 X.left, .int .u8 X.ph] 23
        have K4 := hid ((KK.out.trans k4).alloc (.cells ([.int .u8 X.data, .int .u8 X.ctl, .int .u8 X.left, .int .u8 X.ph] : List Value).toArray 23))
        have cs := blk_cell S4
        have ct := blk_cell T4
        have cs1 := blk_cell (blk_kept k4 SB.out)
        have ct1 := blk_cell (blk_kept k4 TB.out)
        have cx := blk_cell X4
        have n1 : bs ≠ u4.heap.size := by have := blk_lt (blk_kept k4 SB.out); omega
        have n2 : bt ≠ u4.heap.size := by have := blk_lt (blk_kept k4 TB.out); omega
        clear k4 SB TB KK zs zt
        go_wp2_with fail
        refine (AY.out _).mono ?_
        rintro e u5 ⟨rfl, k5⟩
        have S5 := blk_past (blk_kept k5 S4) (.cells ([.int .u8 Y.data, .int .u8 Y.ctl, .int .u8 Y.left, .int .u8 Y.ph] : List Value).toArray 23)
        have T5 := blk_past (blk_kept k5 T4) (.cells ([.int .u8 Y.data, .int .u8 Y.ctl, .int .u8 Y.left, .int .u8 Y.ph] : List Value).toArray 23)
        have X5 := blk_past (blk_kept k5 X4) (.cells ([.int .u8 Y.data, .int .u8 Y.ctl, .int .u8 Y.left, .int .u8 Y.ph] : List Value).toArray 23)
        have Y5 := blk_new u5 [.int .u8 Y.data, .int .u8 Y.ctl, .int .u8 Y.left, .int .u8 Y.ph] 23
        have K5 := hid ((K4.out.trans k5).alloc (.cells ([.int .u8 Y.data, .int .u8 Y.ctl, .int .u8 Y.left, .int .u8 Y.ph] : List Value).toArray 23))
        have cx5 := blk_cell X5
        have cx6 := blk_cell (blk_kept k5 X4)
        have zx5 := blk_lt (blk_kept k5 X4)
        have zs5 := blk_lt (blk_kept k5 S4)
        have zt5 := blk_lt (blk_kept k5 T4)
        have n3 : bs ≠ u5.heap.size := by omega
        have n4 : bt ≠ u5.heap.size := by omega
        have n5 : u4.heap.size ≠ u5.heap.size := by omega
        have n6 : u5.heap.size ≠ bs := fun e => n3 e.symm
        have n7 : u5.heap.size ≠ bt := fun e => n4 e.symm
        clear k5 S4 T4 X4 K4 cs ct cs1 ct1 cx
        go_wp2_with (first
          | ((with_reducible refine at_st 23 ?_); refine wl_store rfl rfl rfl rfl S5 (by kernel_rfl) rfl (Nat.le_of_ble_eq_true rfl) (fun v6 p6 => ?_); have S6 : Blk v6 bs 23 [.int .u8 X.data, .int .u8 X.ctl, .int .u8 X.left, .int .u8 X.ph] := p6.blk; have T6 := p6.other _ _ _ nts T5; have Y6 := p6.other _ _ _ n6 Y5; have K6 := hid (p6.kept _ K5.out lowS); have cy6 := blk_cell Y6; clear p6 S5 T5 X5 Y5 cx5 cx6 K5)
          | ((with_reducible refine at_st 23 ?_); refine wl_store rfl rfl rfl rfl T6 (by kernel_rfl) rfl (Nat.le_of_ble_eq_true rfl) (fun v7 p7 => ?_); have T7 : Blk v7 bt 23 [.int .u8 Y.data, .int .u8 Y.ctl, .int .u8 Y.left, .int .u8 Y.ph] := p7.blk; have S7 := p7.other _ _ _ nst S6; have K7 := hid (p7.kept _ K6.out lowT); clear p7 S6 T6 Y6 cy6 K6))
        go_roundw
        case rel => exact ⟨j + 1, by omega, by first | (rw [N1.out]; done) | (rw [N1.out]; first | rfl | go_num), by first | go_num | rfl, by rw [XE.out]; exact S7, by rw [YE.out]; exact T7, K7.out⟩
        case measure => first | omega | (simp; omega) | (simp [intOf]; omega)
      · have AX := hid (fun u => A.out j hlt false u)
        have AY := hid (fun u => B.out j hlt u)
        have f1 := over_far b a b0 b1 a0 a1 j hlt
        have f2 := over_own a b a0 a1 b0 b1 j hlt
        have f3 := own_left a b j hlt
        have g1 : decide ((j : Int) < 1024) = true := decide_eq_true (by omega)
        have g2 : ((j : Int) == 1023) = false := (by simp; omega)
        rw [g2] at AX AY
        obtain ⟨X, hX⟩ : ∃ X, ownE a b (j + 1) = X := ⟨_, rfl⟩
        obtain ⟨Y, hY⟩ : ∃ Y, farE b a (j + 1) = Y := ⟨_, rfl⟩
        rw [hX] at AX f3
        rw [hY] at AY
        have XE := hid hX
        have YE := hid hY
        have N0 := hid (askN_0 j hlt)
        have N1 := hid (show askN (j + 1) = 0 by unfold askN; rw [if_neg (by omega)])
        clear hX hY
        generalize bitS a (7 - j / 128) = ba at *
        generalize bitS b (7 - j / 128) = bb at *
        generalize decide (j % 128 = 127) = ed at *
        generalize ownE a b j = U at *
        generalize farE b a j = T at *
        rw [N0.out]
        go_wp2_with fail
        refine (AX.out _).mono ?_
        rintro e u4 ⟨rfl, k4⟩
        have S4 := blk_past (blk_kept k4 SB.out) (.cells ([.int .u8 X.data, .int .u8 X.ctl, .int .u8 X.left, .int .u8 X.ph] : List Value).toArray 23)
        have T4 := blk_past (blk_kept k4 TB.out) (.cells ([.int .u8 X.data, .int .u8 X.ctl, .int .u8 X.left, .int .u8 X.ph] : List Value).toArray 23)
        have X4 := blk_new u4 [.int .u8 X.data, .int .u8 X.ctl, .int .u8 X.left, .int .u8 X.ph] 23
        have K4 := hid ((KK.out.trans k4).alloc (.cells ([.int .u8 X.data, .int .u8 X.ctl, .int .u8 X.left, .int .u8 X.ph] : List Value).toArray 23))
        have cs := blk_cell S4
        have ct := blk_cell T4
        have cs1 := blk_cell (blk_kept k4 SB.out)
        have ct1 := blk_cell (blk_kept k4 TB.out)
        have cx := blk_cell X4
        have n1 : bs ≠ u4.heap.size := by have := blk_lt (blk_kept k4 SB.out); omega
        have n2 : bt ≠ u4.heap.size := by have := blk_lt (blk_kept k4 TB.out); omega
        clear k4 SB TB KK zs zt
        go_wp2_with fail
        refine (AY.out _).mono ?_
        rintro e u5 ⟨rfl, k5⟩
        have S5 := blk_past (blk_kept k5 S4) (.cells ([.int .u8 Y.data, .int .u8 Y.ctl, .int .u8 Y.left, .int .u8 Y.ph] : List Value).toArray 23)
        have T5 := blk_past (blk_kept k5 T4) (.cells ([.int .u8 Y.data, .int .u8 Y.ctl, .int .u8 Y.left, .int .u8 Y.ph] : List Value).toArray 23)
        have X5 := blk_past (blk_kept k5 X4) (.cells ([.int .u8 Y.data, .int .u8 Y.ctl, .int .u8 Y.left, .int .u8 Y.ph] : List Value).toArray 23)
        have Y5 := blk_new u5 [.int .u8 Y.data, .int .u8 Y.ctl, .int .u8 Y.left, .int .u8 Y.ph] 23
        have K5 := hid ((K4.out.trans k5).alloc (.cells ([.int .u8 Y.data, .int .u8 Y.ctl, .int .u8 Y.left, .int .u8 Y.ph] : List Value).toArray 23))
        have cx5 := blk_cell X5
        have cx6 := blk_cell (blk_kept k5 X4)
        have zx5 := blk_lt (blk_kept k5 X4)
        have zs5 := blk_lt (blk_kept k5 S4)
        have zt5 := blk_lt (blk_kept k5 T4)
        have n3 : bs ≠ u5.heap.size := by omega
        have n4 : bt ≠ u5.heap.size := by omega
        have n5 : u4.heap.size ≠ u5.heap.size := by omega
        have n6 : u5.heap.size ≠ bs := fun e => n3 e.symm
        have n7 : u5.heap.size ≠ bt := fun e => n4 e.symm
        clear k5 S4 T4 X4 K4 cs ct cs1 ct1 cx
        go_wp2_with (first
          | ((with_reducible refine at_st 23 ?_); refine wl_store rfl rfl rfl rfl S5 (by kernel_rfl) rfl (Nat.le_of_ble_eq_true rfl) (fun v6 p6 => ?_); have S6 : Blk v6 bs 23 [.int .u8 X.data, .int .u8 X.ctl, .int .u8 X.left, .int .u8 X.ph] := p6.blk; have T6 := p6.other _ _ _ nts T5; have Y6 := p6.other _ _ _ n6 Y5; have K6 := hid (p6.kept _ K5.out lowS); have cy6 := blk_cell Y6; clear p6 S5 T5 X5 Y5 cx5 cx6 K5)
          | ((with_reducible refine at_st 23 ?_); refine wl_store rfl rfl rfl rfl T6 (by kernel_rfl) rfl (Nat.le_of_ble_eq_true rfl) (fun v7 p7 => ?_); have T7 : Blk v7 bt 23 [.int .u8 Y.data, .int .u8 Y.ctl, .int .u8 Y.left, .int .u8 Y.ph] := p7.blk; have S7 := p7.other _ _ _ nst S6; have K7 := hid (p7.kept _ K6.out lowT); clear p7 S6 T6 Y6 cy6 K6))
        go_roundw
        case rel => exact ⟨j + 1, by omega, by first | (rw [N1.out]; done) | (rw [N1.out]; first | rfl | go_num), by first | go_num | rfl, by rw [XE.out]; exact S7, by rw [YE.out]; exact T7, K7.out⟩
        case measure => first | omega | (simp; omega) | (simp [intOf]; omega)
    · have je : j = 1024 := by omega
      subst je
      have SE : Blk wr bs 23 [.int .u8 b, .int .u8 1, .int .u8 0, .int .u8 0] := by have q := SB.out; rw [own_8] at q; exact q
      have TE : Blk wr bt 23 [.int .u8 a, .int .u8 0, .int .u8 0, .int .u8 0] := by have q := TB.out; rw [far_8] at q; exact q
      have cE := blk_cell SE
      have cF := blk_cell TE
      have aE : askN 1024 = 1 := rfl
      rw [aE]
      clear cs ct SB TB A B aE
      go_wp2
      go_ret
      exact ⟨rfl, KK.out⟩
end Go.Proofs.Ytblagmninenapaa
