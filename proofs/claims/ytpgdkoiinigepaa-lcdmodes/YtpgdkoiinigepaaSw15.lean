/- The examples at the head of layer 15's laws. -/
import Derived.Test.YtpgdkoiinigepaaPlc15c
namespace Go.Proofs.Ytpgdkoiinigepaa
open Go.RowKit
set_option linter.unusedVariables false
set_option linter.unusedSimpArgs false

theorem in15_a : LcIn ⟨true, 3, 79, 0, 0, false, 0⟩ := ⟨by decide, by decide, by decide, by decide, by decide, by decide, by decide, by decide, by decide, by decide⟩
theorem in15_b : LcIn ⟨true, 143, 455, 0, 0, false, 0⟩ := ⟨by decide, by decide, by decide, by decide, by decide, by decide, by decide, by decide, by decide, by decide⟩
theorem in15_c : LcIn ⟨true, 3, 259, 0, 0, false, 7⟩ := ⟨by decide, by decide, by decide, by decide, by decide, by decide, by decide, by decide, by decide, by decide⟩
theorem in15_d : LcIn ⟨true, 5, 0, 5, 64, false, 0⟩ := ⟨by decide, by decide, by decide, by decide, by decide, by decide, by decide, by decide, by decide, by decide⟩
theorem st15_a : stepL ⟨true, 3, 79, 0, 0, false, 0⟩ 7 = ⟨true, 3, 80, 0, 0, false, 7⟩ := by rfl
theorem st15_b : stepL ⟨true, 143, 455, 0, 0, false, 0⟩ 0 = ⟨true, 144, 0, 0, 0, false, 0⟩ := by rfl
theorem ev15_a : stepF ⟨true, 3, 79, 0, 0, false, 0⟩ = false ∧ stepR ⟨true, 3, 79, 0, 0, false, 0⟩ 7 = false ∧ stepD ⟨true, 3, 79, 0, 0, false, 0⟩ = true := ⟨rfl, rfl, rfl⟩
theorem ev15_b : stepF ⟨true, 143, 455, 0, 0, false, 0⟩ = true ∧ stepR ⟨true, 143, 455, 0, 0, false, 0⟩ 0 = false ∧ stepD ⟨true, 143, 455, 0, 0, false, 0⟩ = false := ⟨rfl, rfl, rfl⟩
theorem md15_c : modeL ⟨true, 3, 259, 0, 0, false, 7⟩ = 0 := by rfl
theorem rd15_d : readL ⟨true, 5, 0, 5, 64, false, 0⟩ 65345 = 198 := by rfl
set_option maxRecDepth 100000 in
set_option maxHeartbeats 4000000 in
theorem kshown15 (w : World) : Calls Try.prog 9 #[] w fun e w' => e = .returned (.bool true) ∧ Kept w w' := by
  have A : ∀ u, Calls Try.prog 16 #[.agg #[.bool true, .int .u8 3, .int .u16 79, .int .u8 0, .int .u8 0, .bool false, .int .u16 0], .int .u16 7] u fun e w' => e = .returned (.tuple #[.agg #[.bool true, .int .u8 3, .int .u16 80, .int .u8 0, .int .u8 0, .bool false, .int .u16 7], .agg #[.bool false, .bool false, .bool true]]) ∧ Kept u w' := fun u => by have q := pstep15 ⟨true, 3, 79, 0, 0, false, 0⟩ 7 u in15_a (by decide) (by decide); rw [st15_a, ev15_a.1, ev15_a.2.1, ev15_a.2.2] at q; exact q
  have B : ∀ u, Calls Try.prog 16 #[.agg #[.bool true, .int .u8 143, .int .u16 455, .int .u8 0, .int .u8 0, .bool false, .int .u16 0], .int .u16 0] u fun e w' => e = .returned (.tuple #[.agg #[.bool true, .int .u8 144, .int .u16 0, .int .u8 0, .int .u8 0, .bool false, .int .u16 0], .agg #[.bool true, .bool false, .bool false]]) ∧ Kept u w' := fun u => by have q := pstep15 ⟨true, 143, 455, 0, 0, false, 0⟩ 0 u in15_b (by decide) (by decide); rw [st15_b, ev15_b.1, ev15_b.2.1, ev15_b.2.2] at q; exact q
  have C : ∀ u, Calls Try.prog 12 #[.agg #[.bool true, .int .u8 3, .int .u16 259, .int .u8 0, .int .u8 0, .bool false, .int .u16 7]] u fun e w' => e = .returned (.int .i64 0) ∧ Kept u w' := fun u => by have q := pmode15 ⟨true, 3, 259, 0, 0, false, 7⟩ u in15_c; rw [md15_c] at q; exact q
  have D : ∀ u, Calls Try.prog 20 #[.agg #[.bool true, .int .u8 5, .int .u16 0, .int .u8 5, .int .u8 64, .bool false, .int .u16 0], .int .u16 65345] u fun e w' => e = .returned (.int .u8 198) ∧ Kept u w' := fun u => by have q := pread15 ⟨true, 5, 0, 5, 64, false, 0⟩ 65345 u in15_d (by decide) (by decide); rw [rd15_d] at q; exact q
  have A := hid A
  have B := hid B
  have C := hid C
  have D := hid D
  go_enter Try.func9, Try.ntmps9
  go_wp2_with fail
  refine (A.out _).mono ?_
  rintro e u1 ⟨rfl, k1⟩
  have K_1 := hid k1
  clear k1
  have Ba_2 : Blk ((u1.alloc (.cells ([.bool false, .int .u8 0, .int .u16 0, .int .u8 0, .int .u8 0, .bool false, .int .u16 0] : List Value).toArray 24)).alloc (.cells ([.bool false, .bool false, .bool false] : List Value).toArray 31)) u1.heap.size 24 [.bool false, .int .u8 0, .int .u16 0, .int .u8 0, .int .u8 0, .bool false, .int .u16 0] := blk_past (blk_new u1 _ _) _
  have Be_2 : Blk ((u1.alloc (.cells ([.bool false, .int .u8 0, .int .u16 0, .int .u8 0, .int .u8 0, .bool false, .int .u16 0] : List Value).toArray 24)).alloc (.cells ([.bool false, .bool false, .bool false] : List Value).toArray 31)) (u1.heap.size + 1) 31 [.bool false, .bool false, .bool false] := by have q := blk_new (u1.alloc (.cells ([.bool false, .int .u8 0, .int .u16 0, .int .u8 0, .int .u8 0, .bool false, .int .u16 0] : List Value).toArray 24)) [.bool false, .bool false, .bool false] 31; rw [World.size_alloc] at q; exact q
  have K_2 := hid ((K_1.out.alloc (.cells ([.bool false, .int .u8 0, .int .u16 0, .int .u8 0, .int .u8 0, .bool false, .int .u16 0] : List Value).toArray 24)).alloc (.cells ([.bool false, .bool false, .bool false] : List Value).toArray 31))
  have nae : u1.heap.size ≠ u1.heap.size + 1 := by omega
  have nea : u1.heap.size + 1 ≠ u1.heap.size := by omega
  have lea : w.heap.size ≤ u1.heap.size := K_1.out.size
  have lee : w.heap.size ≤ u1.heap.size + 1 := by omega
  clear K_1 
  go_wp2_with (first
    | ((with_reducible refine at_st 24 ?_); refine wl_store rfl rfl rfl rfl Ba_2 (by kernel_rfl) rfl (Nat.le_of_ble_eq_true rfl) (fun v3 p3 => ?_); have Ba_3 : Blk v3 u1.heap.size 24 [.bool true, .int .u8 3, .int .u16 80, .int .u8 0, .int .u8 0, .bool false, .int .u16 7] := p3.blk; have Be_3 := p3.other _ _ _ nea Be_2; have K_3 := hid (p3.kept _ K_2.out lea); clear p3 K_2 Ba_2 Be_2; have ca_3 := blk_cell Ba_3; have za_3 := blk_lt Ba_3; have ce_3 := blk_cell Be_3; have ze_3 := blk_lt Be_3)
    | ((with_reducible refine at_st 31 ?_); refine wl_store rfl rfl rfl rfl Be_3 (by kernel_rfl) rfl (Nat.le_of_ble_eq_true rfl) (fun v4 p4 => ?_); have Be_4 : Blk v4 (u1.heap.size + 1) 31 [.bool false, .bool false, .bool true] := p4.blk; have Ba_4 := p4.other _ _ _ nae Ba_3; have K_4 := hid (p4.kept _ K_3.out lee); clear p4 K_3 Ba_3 ca_3 za_3 Be_3 ce_3 ze_3; have ca_4 := blk_cell Ba_4; have za_4 := blk_lt Ba_4; have ce_4 := blk_cell Be_4; have ze_4 := blk_lt Be_4))
  refine (B.out _).mono ?_
  rintro e u5 ⟨rfl, k5⟩
  have Ba_5 := blk_kept k5 Ba_4
  have Be_5 := blk_kept k5 Be_4
  have K_5 := hid (K_4.out.trans k5)
  clear k5 K_4 Ba_4 ca_4 za_4 Be_4 ce_4 ze_4
  have ca_5 := blk_cell Ba_5
  have za_5 := blk_lt Ba_5
  have ce_5 := blk_cell Be_5
  have ze_5 := blk_lt Be_5
  have Ba_6 := blk_past (blk_past Ba_5 (.cells ([.bool false, .int .u8 0, .int .u16 0, .int .u8 0, .int .u8 0, .bool false, .int .u16 0] : List Value).toArray 24)) (.cells ([.bool false, .bool false, .bool false] : List Value).toArray 31)
  have Be_6 := blk_past (blk_past Be_5 (.cells ([.bool false, .int .u8 0, .int .u16 0, .int .u8 0, .int .u8 0, .bool false, .int .u16 0] : List Value).toArray 24)) (.cells ([.bool false, .bool false, .bool false] : List Value).toArray 31)
  have Bb_6 : Blk ((u5.alloc (.cells ([.bool false, .int .u8 0, .int .u16 0, .int .u8 0, .int .u8 0, .bool false, .int .u16 0] : List Value).toArray 24)).alloc (.cells ([.bool false, .bool false, .bool false] : List Value).toArray 31)) u5.heap.size 24 [.bool false, .int .u8 0, .int .u16 0, .int .u8 0, .int .u8 0, .bool false, .int .u16 0] := blk_past (blk_new u5 _ _) _
  have Bf_6 : Blk ((u5.alloc (.cells ([.bool false, .int .u8 0, .int .u16 0, .int .u8 0, .int .u8 0, .bool false, .int .u16 0] : List Value).toArray 24)).alloc (.cells ([.bool false, .bool false, .bool false] : List Value).toArray 31)) (u5.heap.size + 1) 31 [.bool false, .bool false, .bool false] := by have q := blk_new (u5.alloc (.cells ([.bool false, .int .u8 0, .int .u16 0, .int .u8 0, .int .u8 0, .bool false, .int .u16 0] : List Value).toArray 24)) [.bool false, .bool false, .bool false] 31; rw [World.size_alloc] at q; exact q
  have K_6 := hid ((K_5.out.alloc (.cells ([.bool false, .int .u8 0, .int .u16 0, .int .u8 0, .int .u8 0, .bool false, .int .u16 0] : List Value).toArray 24)).alloc (.cells ([.bool false, .bool false, .bool false] : List Value).toArray 31))
  have nab : u1.heap.size ≠ u5.heap.size := by omega
  have nba : u5.heap.size ≠ u1.heap.size := by omega
  have naf : u1.heap.size ≠ u5.heap.size + 1 := by omega
  have nfa : u5.heap.size + 1 ≠ u1.heap.size := by omega
  have neb : (u1.heap.size + 1) ≠ u5.heap.size := by omega
  have nbe : u5.heap.size ≠ (u1.heap.size + 1) := by omega
  have nef : (u1.heap.size + 1) ≠ u5.heap.size + 1 := by omega
  have nfe : u5.heap.size + 1 ≠ (u1.heap.size + 1) := by omega
  have nbf : u5.heap.size ≠ u5.heap.size + 1 := by omega
  have nfb : u5.heap.size + 1 ≠ u5.heap.size := by omega
  have leb : w.heap.size ≤ u5.heap.size := K_5.out.size
  have lef : w.heap.size ≤ u5.heap.size + 1 := by omega
  clear K_5 Ba_5 ca_5 za_5 Be_5 ce_5 ze_5
  go_wp2_with (first
    | ((with_reducible refine at_st 24 ?_); refine wl_store rfl rfl rfl rfl Bb_6 (by kernel_rfl) rfl (Nat.le_of_ble_eq_true rfl) (fun v7 p7 => ?_); have Bb_7 : Blk v7 u5.heap.size 24 [.bool true, .int .u8 144, .int .u16 0, .int .u8 0, .int .u8 0, .bool false, .int .u16 0] := p7.blk; have Ba_7 := p7.other _ _ _ nab Ba_6; have Be_7 := p7.other _ _ _ neb Be_6; have Bf_7 := p7.other _ _ _ nfb Bf_6; have K_7 := hid (p7.kept _ K_6.out leb); clear p7 K_6 Ba_6 Be_6 Bb_6 Bf_6; have ca_7 := blk_cell Ba_7; have za_7 := blk_lt Ba_7; have ce_7 := blk_cell Be_7; have ze_7 := blk_lt Be_7; have cb_7 := blk_cell Bb_7; have zb_7 := blk_lt Bb_7; have cf_7 := blk_cell Bf_7; have zf_7 := blk_lt Bf_7)
    | ((with_reducible refine at_st 31 ?_); refine wl_store rfl rfl rfl rfl Bf_7 (by kernel_rfl) rfl (Nat.le_of_ble_eq_true rfl) (fun v8 p8 => ?_); have Bf_8 : Blk v8 (u5.heap.size + 1) 31 [.bool true, .bool false, .bool false] := p8.blk; have Ba_8 := p8.other _ _ _ naf Ba_7; have Be_8 := p8.other _ _ _ nef Be_7; have Bb_8 := p8.other _ _ _ nbf Bb_7; have K_8 := hid (p8.kept _ K_7.out lef); clear p8 K_7 Ba_7 ca_7 za_7 Be_7 ce_7 ze_7 Bb_7 cb_7 zb_7 Bf_7 cf_7 zf_7; have ca_8 := blk_cell Ba_8; have za_8 := blk_lt Ba_8; have ce_8 := blk_cell Be_8; have ze_8 := blk_lt Be_8; have cb_8 := blk_cell Bb_8; have zb_8 := blk_lt Bb_8; have cf_8 := blk_cell Bf_8; have zf_8 := blk_lt Bf_8)
    | ((with_reducible refine at_st 22 ?_); refine wl_store rfl rfl rfl rfl Ba_8 (by kernel_rfl) rfl (Nat.le_of_ble_eq_true rfl) (fun v9 p9 => ?_); have Ba_9 : Blk v9 u1.heap.size 24 [.bool true, .int .u8 3, .int .u16 259, .int .u8 0, .int .u8 0, .bool false, .int .u16 7] := p9.blk; have Be_9 := p9.other _ _ _ nea Be_8; have Bb_9 := p9.other _ _ _ nba Bb_8; have Bf_9 := p9.other _ _ _ nfa Bf_8; have K_9 := hid (p9.kept _ K_8.out lea); clear p9 K_8 Ba_8 ca_8 za_8 Be_8 ce_8 ze_8 Bb_8 cb_8 zb_8 Bf_8 cf_8 zf_8; have ca_9 := blk_cell Ba_9; have za_9 := blk_lt Ba_9; have ce_9 := blk_cell Be_9; have ze_9 := blk_lt Be_9; have cb_9 := blk_cell Bb_9; have zb_9 := blk_lt Bb_9; have cf_9 := blk_cell Bf_9; have zf_9 := blk_lt Bf_9))
  refine (C.out _).mono ?_
  rintro e u10 ⟨rfl, k10⟩
  have Ba_10 := blk_kept k10 Ba_9
  have Be_10 := blk_kept k10 Be_9
  have Bb_10 := blk_kept k10 Bb_9
  have Bf_10 := blk_kept k10 Bf_9
  have K_10 := hid (K_9.out.trans k10)
  clear k10 K_9 Ba_9 ca_9 za_9 Be_9 ce_9 ze_9 Bb_9 cb_9 zb_9 Bf_9 cf_9 zf_9
  have ca_10 := blk_cell Ba_10
  have za_10 := blk_lt Ba_10
  have ce_10 := blk_cell Be_10
  have ze_10 := blk_lt Be_10
  have cb_10 := blk_cell Bb_10
  have zb_10 := blk_lt Bb_10
  have cf_10 := blk_cell Bf_10
  have zf_10 := blk_lt Bf_10
  go_wp2_with fail
  refine (D.out _).mono ?_
  rintro e u11 ⟨rfl, k11⟩
  have Ba_11 := blk_kept k11 Ba_10
  have Be_11 := blk_kept k11 Be_10
  have Bb_11 := blk_kept k11 Bb_10
  have Bf_11 := blk_kept k11 Bf_10
  have K_11 := hid (K_10.out.trans k11)
  clear k11 K_10 Ba_10 ca_10 za_10 Be_10 ce_10 ze_10 Bb_10 cb_10 zb_10 Bf_10 cf_10 zf_10
  have ca_11 := blk_cell Ba_11
  have za_11 := blk_lt Ba_11
  have ce_11 := blk_cell Be_11
  have ze_11 := blk_lt Be_11
  have cb_11 := blk_cell Bb_11
  have zb_11 := blk_lt Bb_11
  have cf_11 := blk_cell Bf_11
  have zf_11 := blk_lt Bf_11
  go_wp2
  go_ret
  exact ⟨rfl, K_11.out⟩
end Go.Proofs.Ytpgdkoiinigepaa
