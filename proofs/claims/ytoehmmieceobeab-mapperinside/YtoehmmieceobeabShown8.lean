/- The example at the head of layer 8's laws holds. -/
import Derived.Test.YtoehmmieceobeabPg8f
import Derived.Test.YtoehmmieceobeabK8
namespace Go.Proofs.Ytoehmmieceobeab
open Go.RowKit
set_option linter.unusedVariables false
set_option linter.unusedSimpArgs false

theorem in_m1 : MpIn ⟨1, false, 0, 0, 0, false⟩ := ⟨by decide, by decide, by decide, by decide, by decide, by decide, by decide, by decide⟩
theorem in_m2 : MpIn ⟨1, false, 0, 3, 0, false⟩ := ⟨by decide, by decide, by decide, by decide, by decide, by decide, by decide, by decide⟩
theorem in_m3 : MpIn ⟨1, false, 0, 3, 0, true⟩ := ⟨by decide, by decide, by decide, by decide, by decide, by decide, by decide, by decide⟩
theorem in_k1 : MpIn ⟨3, false, 0, 0, 0, false⟩ := ⟨by decide, by decide, by decide, by decide, by decide, by decide, by decide, by decide⟩
theorem in_k2 : MpIn ⟨3, true, 0, 0, 0, false⟩ := ⟨by decide, by decide, by decide, by decide, by decide, by decide, by decide, by decide⟩
theorem in_k3 : MpIn ⟨3, true, 0, 0, 9, false⟩ := ⟨by decide, by decide, by decide, by decide, by decide, by decide, by decide, by decide⟩
set_option maxRecDepth 100000 in
set_option maxHeartbeats 4000000 in
theorem shown8 (w : World) : Calls Try.prog 4 #[] w fun e w' => e = .returned (.bool true) ∧ Kept w w' := by
  have C1 := hid (fun u => mnew_any 1 u)
  rw [show newR 1 = ⟨1, false, 0, 0, 0, false⟩ from rfl, show newE 1 = 0 from rfl] at C1
  have C2 := hid (fun u => mwrite_any ⟨1, false, 0, 0, 0, false⟩ 16384 3 u (by decide) (by decide) (by decide) (by decide) in_m1)
  rw [show writeM ⟨1, false, 0, 0, 0, false⟩ 16384 3 = ⟨1, false, 0, 3, 0, false⟩ from rfl] at C2
  have C3 := hid (fun u => mnew_any 3 u)
  rw [show newR 3 = ⟨3, false, 0, 0, 0, false⟩ from rfl, show newE 3 = 0 from rfl] at C3
  have C4 := hid (fun u => mwrite_any ⟨3, false, 0, 0, 0, false⟩ 0 10 u (by decide) (by decide) (by decide) (by decide) in_k1)
  rw [show writeM ⟨3, false, 0, 0, 0, false⟩ 0 10 = ⟨3, true, 0, 0, 0, false⟩ from rfl] at C4
  have C5 := hid (fun u => mwrite_any ⟨3, true, 0, 0, 0, false⟩ 16384 9 u (by decide) (by decide) (by decide) (by decide) in_k2)
  rw [show writeM ⟨3, true, 0, 0, 0, false⟩ 16384 9 = ⟨3, true, 0, 0, 9, false⟩ from rfl] at C5
  have C6 := hid (fun u => mbank_any ⟨1, false, 0, 3, 0, false⟩ 16384 u (by decide) (by decide) in_m2)
  rw [show bankM ⟨1, false, 0, 3, 0, false⟩ 16384 = 97 from rfl] at C6
  have C7 := hid (fun u => mwrite_any ⟨1, false, 0, 3, 0, false⟩ 24576 1 u (by decide) (by decide) (by decide) (by decide) in_m2)
  rw [show writeM ⟨1, false, 0, 3, 0, false⟩ 24576 1 = ⟨1, false, 0, 3, 0, true⟩ from rfl] at C7
  have C8 := hid (fun u => mbank_any ⟨1, false, 0, 3, 0, true⟩ 0 u (by decide) (by decide) in_m3)
  rw [show bankM ⟨1, false, 0, 3, 0, true⟩ 0 = 96 from rfl] at C8
  have C9 := hid (fun u => mreg_any ⟨3, true, 0, 0, 9, false⟩ 40960 u (by decide) (by decide) in_k3)
  rw [show regM ⟨3, true, 0, 0, 9, false⟩ 40960 = 9 from rfl] at C9
  have C10 := hid (fun u => mram_any ⟨3, true, 0, 0, 9, false⟩ 40960 8192 u (by decide) (by decide) (by decide) (by decide) in_k3)
  rw [show ramM ⟨3, true, 0, 0, 9, false⟩ 40960 8192 = -1 from rfl] at C10
  go_enter Try.func4, Try.ntmps4
  go_wp2_with fail
  refine (C1.out _).mono ?_
  rintro e u1 ⟨rfl, k1⟩
  have K1 := hid k1
  clear k1
  go_wp2_with fail
  refine (C2.out _).mono ?_
  rintro e u2 ⟨rfl, k2⟩
  have K2 := hid ((K1.out.alloc _).trans k2)
  obtain ⟨hM, fM⟩ := mine (alloc1 u1 _ _) k2 (has_alloc u1 #[.int .i64 1, .bool false, .int .u8 0, .int .u8 0, .int .u8 0, .bool false] 23) (Nat.le_refl _)
  have zM := hM.1
  have a0 := hM.2 0
  have a1 := hM.2 1
  have a2 := hM.2 2
  have a3 := hM.2 3
  have a4 := hM.2 4
  have a5 := hM.2 5
  simp at a0 a1 a2 a3 a4 a5
  have zw : w.heap.size ≤ u1.heap.size := K1.out.size
  have HM := hid (has_set6 hM (.int .i64 1) (.bool false) (.int .u8 0) (.int .u8 3) (.int .u8 0) (.bool false))
  have K3 := hid (K2.out.set6 (b := u1.heap.size) zw (.int .i64 1) (.bool false) (.int .u8 0) (.int .u8 3) (.int .u8 0) (.bool false))
  clear k2 hM
  go_wp2_with fail
  obtain ⟨u3, hu3⟩ : ∃ v, ((((((u2.setCell ⟨u1.heap.size, 0, none⟩ (.int .i64 1)).setCell ⟨u1.heap.size, 1, none⟩ (.bool false)).setCell ⟨u1.heap.size, 2, none⟩ (.int .u8 0)).setCell ⟨u1.heap.size, 3, none⟩ (.int .u8 3)).setCell ⟨u1.heap.size, 4, none⟩ (.int .u8 0)).setCell ⟨u1.heap.size, 5, none⟩ (.bool false)) = v := ⟨_, rfl⟩
  rw [hu3] at HM K3 ⊢
  clear hu3 a0 a1 a2 a3 a4 a5 zM fM K2
  refine (C3.out _).mono ?_
  rintro e u4 ⟨rfl, k4⟩
  have HM4 := hid (hasK k4 HM.out)
  have K4 := hid (K3.out.trans k4)
  clear k4
  go_wp2_with fail
  refine (C4.out _).mono ?_
  rintro e u5 ⟨rfl, k5⟩
  have HM5 := hid (hasK k5 (has_past HM4.out _))
  obtain ⟨hK, fK⟩ := mine (alloc1 u4 _ _) k5 (has_alloc u4 #[.int .i64 3, .bool false, .int .u8 0, .int .u8 0, .int .u8 0, .bool false] 23) (Nat.le_refl _)
  have FK := hid fK
  have HK5 := hid hK
  have K5 := hid ((K4.out.alloc _).trans k5)
  clear k5 hK fK
  go_wp2_with fail
  refine (C5.out _).mono ?_
  rintro e u6 ⟨rfl, k6⟩
  have HM6 := hid (hasK k6 HM5.out)
  have HK6 := hasK k6 HK5.out
  have fK := frozK k6 HK5.out.1 FK.out
  have K6 := hid (K5.out.trans k6)
  have zK := HK6.1
  have a0 := HK6.2 0
  have a1 := HK6.2 1
  have a2 := HK6.2 2
  have a3 := HK6.2 3
  have a4 := HK6.2 4
  have a5 := HK6.2 5
  simp at a0 a1 a2 a3 a4 a5
  have z4 : w.heap.size ≤ u4.heap.size := K4.out.size
  have ne : u4.heap.size ≠ u1.heap.size := by have := HM4.out.1; omega
  have HK7 := hid (has_set6 HK6 (.int .i64 3) (.bool true) (.int .u8 0) (.int .u8 0) (.int .u8 9) (.bool false))
  have HM7 : Hid (Has ((((((u6.setCell ⟨u4.heap.size, 0, none⟩ (.int .i64 3)).setCell ⟨u4.heap.size, 1, none⟩ (.bool true)).setCell ⟨u4.heap.size, 2, none⟩ (.int .u8 0)).setCell ⟨u4.heap.size, 3, none⟩ (.int .u8 0)).setCell ⟨u4.heap.size, 4, none⟩ (.int .u8 9)).setCell ⟨u4.heap.size, 5, none⟩ (.bool false)) u1.heap.size #[.int .i64 1, .bool false, .int .u8 0, .int .u8 3, .int .u8 0, .bool false]) := hid (by repeat (first | with_reducible exact HM6.out | with_reducible refine has_other ?_ ne _))
  have K7 := hid (K6.out.set6 (b := u4.heap.size) z4 (.int .i64 3) (.bool true) (.int .u8 0) (.int .u8 0) (.int .u8 9) (.bool false))
  obtain ⟨u7, hu7⟩ : ∃ v, ((((((u6.setCell ⟨u4.heap.size, 0, none⟩ (.int .i64 3)).setCell ⟨u4.heap.size, 1, none⟩ (.bool true)).setCell ⟨u4.heap.size, 2, none⟩ (.int .u8 0)).setCell ⟨u4.heap.size, 3, none⟩ (.int .u8 0)).setCell ⟨u4.heap.size, 4, none⟩ (.int .u8 9)).setCell ⟨u4.heap.size, 5, none⟩ (.bool false)) = v := ⟨_, rfl⟩
  rw [hu7] at HM7 HK7 K7
  obtain ⟨zm, cm⟩ := id HM7.out
  have m0 := cm 0
  have m1 := cm 1
  have m2 := cm 2
  have m3 := cm 3
  have m4 := cm 4
  have m5 := cm 5
  simp at m0 m1 m2 m3 m4 m5
  clear k6 HK6 cm HM4 HM5 HM6 K5 K4 K3 HM HK5 FK
  go_wp2_with (first | (go_at_call 8; rw [hu7]; clear hu7))
  refine (C6.out _).mono ?_
  rintro e u8 ⟨rfl, k8⟩
  have HM8 := hid (hasK k8 HM7.out)
  have HK8 := hid (hasK k8 HK7.out)
  have K8 := hid (K7.out.trans k8)
  clear k8 m0 m1 m2 m3 m4 m5 zm a0 a1 a2 a3 a4 a5 zK fK HM7 HK7 K7 K6
  obtain ⟨zp8, cp8⟩ := id HM8.out
  have p80 := cp8 0
  have p81 := cp8 1
  have p82 := cp8 2
  have p83 := cp8 3
  have p84 := cp8 4
  have p85 := cp8 5
  simp at p80 p81 p82 p83 p84 p85
  clear cp8
  go_wp2_with fail
  refine (C7.out _).mono ?_
  rintro e u9 ⟨rfl, k9⟩
  have HK9 := hid (hasK k9 HK8.out)
  have K9 := hid (K8.out.trans k9)
  clear k9 p80 p81 p82 p83 p84 p85 zp8 HM8 HK8 K8
  go_wp2_with fail
  refine (C8.out _).mono ?_
  rintro e u10 ⟨rfl, k10⟩
  have HK10 := hid (hasK k10 HK9.out)
  have K10 := hid (K9.out.trans k10)
  clear k10 HK9 K9
  obtain ⟨zq10, cq10⟩ := id HK10.out
  have q100 := cq10 0
  have q101 := cq10 1
  have q102 := cq10 2
  have q103 := cq10 3
  have q104 := cq10 4
  have q105 := cq10 5
  simp at q100 q101 q102 q103 q104 q105
  clear cq10
  go_wp2_with fail
  refine (C9.out _).mono ?_
  rintro e u11 ⟨rfl, k11⟩
  have HK11 := hid (hasK k11 HK10.out)
  have K11 := hid (K10.out.trans k11)
  clear k11 HK10 K10 q100 q101 q102 q103 q104 q105 zq10
  obtain ⟨zr11, cr11⟩ := id HK11.out
  have r110 := cr11 0
  have r111 := cr11 1
  have r112 := cr11 2
  have r113 := cr11 3
  have r114 := cr11 4
  have r115 := cr11 5
  simp at r110 r111 r112 r113 r114 r115
  clear cr11
  go_wp2_with fail
  refine (C10.out _).mono ?_
  rintro e u12 ⟨rfl, k12⟩
  have K12 := hid (K11.out.trans k12)
  clear k12
  go_wp2
  go_ret
  exact ⟨rfl, K12.out⟩
end Go.Proofs.Ytoehmmieceobeab
