/- The program's clock: laid; two clocks held against each other. -/
import Derived.Test.YtfmddnekooojkaaGreatDoorG16
import Derived.Test.YtfmddnekooojkaaGreatDoorG13
import Derived.Deep.RegionHeld3
namespace Go.Proofs.YtfmddnekooojkaaGreatDoor
open Go.RowKit
set_option linter.unusedVariables false
set_option linter.unusedSimpArgs false

def laidC (b0 b1 b2 b3 b4 : Int) : Ck := ⟨b0, b1, b2, 256 * (b4 % 64) + b3, b4 / 64 % 2 == 1, decide (128 ≤ b4)⟩
theorem and63_fin : ∀ b : Fin 256, bits .and .u8 (b.val : Int) 63 = (b.val : Int) % 64 := by decide +kernel
theorem and63 (v : Int) (v0 : 0 ≤ v) (v1 : v ≤ 255) : bits .and .u8 v 63 = v % 64 := fin8 (p := fun b => bits .and .u8 b 63 = b % 64) and63_fin v v0 v1
def same6 (c d : Ck) : Bool := c.sec == d.sec && (c.min == d.min && (c.hour == d.hour && (c.day == d.day && (c.halt == d.halt && c.carry == d.carry))))
set_option maxHeartbeats 2000000 in
theorem eq_clocks (d f : Ck) (u : World) : (Op.equalIn 10000 35 (ckV d) (ckV f)).run Tryz.prog u = .ok (same6 d f) u := by
  unfold same6
  cases h1 : (d.sec == f.sec)
  · simp [go_sem, h1]
  cases h2 : (d.min == f.min)
  · simp [go_sem, h1, h2]
  cases h3 : (d.hour == f.hour)
  · simp [go_sem, h1, h2, h3]
  cases h4 : (d.day == f.day)
  · simp [go_sem, h1, h2, h3, h4]
  cases h5 : (d.halt == f.halt)
  · simp [go_sem, h1, h2, h3, h4, h5]
  cases h6 : (d.carry == f.carry) <;> simp [go_sem, h1, h2, h3, h4, h5, h6]
theorem laid_in (b0 b1 b2 b3 b4 : Int) (i0 : InByte b0) (i1 : InByte b1) (i2 : InByte b2) (i3 : InByte b3) (i4 : InByte b4) : CkIn (laidC b0 b1 b2 b3 b4) := by
  obtain ⟨p0, q0⟩ := i0
  obtain ⟨p1, q1⟩ := i1
  obtain ⟨p2, q2⟩ := i2
  obtain ⟨p3, q3⟩ := i3
  obtain ⟨p4, q4⟩ := i4
  exact ⟨p0, q0, p1, q1, p2, q2, by show 0 ≤ 256 * (b4 % 64) + b3; omega, by show 256 * (b4 % 64) + b3 ≤ 65535; omega⟩
theorem laid_bad (b0 b1 b2 b3 b4 : Int) (i0 : InByte b0) (i1 : InByte b1) (i2 : InByte b2) (i3 : InByte b3) (i4 : InByte b4) (h : oneBad b0 b1 b2 b4) : same6 (laidC b0 b1 b2 b3 b4) (normC (laidC b0 b1 b2 b3 b4)) = false := by
  obtain ⟨p0, q0⟩ := i0
  obtain ⟨p1, q1⟩ := i1
  obtain ⟨p2, q2⟩ := i2
  obtain ⟨p3, q3⟩ := i3
  obtain ⟨p4, q4⟩ := i4
  rw [Bool.eq_false_iff]
  intro e
  simp only [same6, laidC, normC, Bool.and_eq_true, beq_iff_eq] at e
  unfold oneBad at h
  omega
theorem laid_good (b0 b1 b2 b3 b4 : Int) (i0 : InByte b0) (i1 : InByte b1) (i2 : InByte b2) (i3 : InByte b3) (i4 : InByte b4) (h : ¬ oneBad b0 b1 b2 b4) : same6 (laidC b0 b1 b2 b3 b4) (normC (laidC b0 b1 b2 b3 b4)) = true ∧ laidC b0 b1 b2 b3 b4 = oneC b0 b1 b2 b3 b4 := by
  obtain ⟨p0, q0⟩ := i0
  obtain ⟨p1, q1⟩ := i1
  obtain ⟨p2, q2⟩ := i2
  obtain ⟨p3, q3⟩ := i3
  obtain ⟨p4, q4⟩ := i4
  unfold oneBad at h
  refine ⟨?_, ?_⟩
  · simp only [same6, laidC, normC, Bool.and_eq_true, beq_iff_eq, and_true]
    refine ⟨?_, ?_, ?_, ?_⟩ <;> omega
  · simp only [laidC, oneC, Ck.mk.injEq, and_true, true_and]
    omega
set_option maxRecDepth 100000 in
theorem norm_ex (c : Ck) (w : World) (I : CkIn c) : Calls Tryz.prog 55 #[ckV c] w fun e w' => e = .returned (ckV (normC c)) ∧ w' = (w.alloc (.cells #[.int .u8 (normC c).sec, .int .u8 (normC c).min, .int .u8 (normC c).hour, .int .u16 (normC c).day, .bool (normC c).halt, .bool (normC c).carry] 35)).alloc (.cells #[.int .u8 (normC c).sec, .int .u8 (normC c).min, .int .u8 (normC c).hour, .int .u16 (normC c).day, .bool (normC c).halt, .bool (normC c).carry] 35) := by
  obtain ⟨a, b, d, e, f, g, i, j⟩ := I
  have t1 : Int.tmod c.sec 64 = c.sec % 64 := Int.tmod_eq_emod_of_nonneg a
  have t2 : Int.tmod c.min 64 = c.min % 64 := Int.tmod_eq_emod_of_nonneg d
  have t3 : Int.tmod c.hour 32 = c.hour % 32 := Int.tmod_eq_emod_of_nonneg f
  have t4 : Int.tmod c.day 512 = c.day % 512 := Int.tmod_eq_emod_of_nonneg i
  have w1 : IntKind.u8.wrap (c.sec % 64) = c.sec % 64 := by rw [IntKind.wrap_u8]; omega
  have w2 : IntKind.u8.wrap (c.min % 64) = c.min % 64 := by rw [IntKind.wrap_u8]; omega
  have w3 : IntKind.u8.wrap (c.hour % 32) = c.hour % 32 := by rw [IntKind.wrap_u8]; omega
  have w4 : IntKind.u16.wrap (c.day % 512) = c.day % 512 := by rw [IntKind.wrap_u16]; omega
  go_enter Tryz.func55, Tryz.ntmps55
  go_wp2
  exact bodyPost_ret (v := .agg #[.int .u8 (c.sec % 64), .int .u8 (c.min % 64), .int .u8 (c.hour % 32), .int .u16 (c.day % 512), .bool c.halt, .bool c.carry]) (by simp [results, Tryz.results55, go_sem]) rfl ⟨rfl, rfl⟩
theorem has_other2 {w : World} {b : Nat} {cs : Array Value} {a : Addr} (ne : a.block ≠ b) (h : Has w b cs) (v : Value) : Has (w.setCell a v) b cs := has_other h ne v
theorem has_alloc_b {w : World} {b : Nat} {cs : Array Value} {t : TypeId} (h : b = w.heap.size) : Has (w.alloc (.cells cs t)) b cs := by subst h; exact has_alloc w cs t
set_option maxRecDepth 100000 in
set_option maxHeartbeats 3000000 in
theorem laid_any (b0 b1 b2 b3 b4 : Int) (x : Addr) (cap : Nat) (w : World) (i0 : InByte b0) (i1 : InByte b1) (i2 : InByte b2) (i3 : InByte b3) (i4 : InByte b4) (hx : x.block < w.heap.size)
    (c0 : w.cell? x = some (.int .u8 b0)) (c1 : w.cell? ⟨x.block, x.off + 1, none⟩ = some (.int .u8 b1)) (c2 : w.cell? ⟨x.block, x.off + 2, none⟩ = some (.int .u8 b2)) (c3 : w.cell? ⟨x.block, x.off + 3, none⟩ = some (.int .u8 b3)) (c4 : w.cell? ⟨x.block, x.off + 4, none⟩ = some (.int .u8 b4)) :
    Calls Tryz.prog 66 #[.slice (some x) 5 cap] w fun e w' => e = .returned (ckV (laidC b0 b1 b2 b3 b4)) ∧ w' = (w.alloc (.cells #[.int .u8 (laidC b0 b1 b2 b3 b4).sec, .int .u8 (laidC b0 b1 b2 b3 b4).min, .int .u8 (laidC b0 b1 b2 b3 b4).hour, .int .u16 (laidC b0 b1 b2 b3 b4).day, .bool (laidC b0 b1 b2 b3 b4).halt, .bool (laidC b0 b1 b2 b3 b4).carry] 35)).drew := by
  obtain ⟨p0, q0⟩ := i0
  obtain ⟨p1, q1⟩ := i1
  obtain ⟨p2, q2⟩ := i2
  obtain ⟨p3, q3⟩ := i3
  obtain ⟨p4, q4⟩ := i4
  have m1 := and63 b4 p4 q4
  have m2 := (and9 b4 p4 q4).2.1
  have m3 := (and9 b4 p4 q4).2.2
  have w3 : IntKind.u16.wrap (b4 % 64) = b4 % 64 := by rw [IntKind.wrap_u16]; omega
  have w4 : IntKind.u16.wrap (256 * (b4 % 64)) = 256 * (b4 % 64) := by rw [IntKind.wrap_u16]; omega
  have w5 : IntKind.u16.wrap b3 = b3 := by rw [IntKind.wrap_u16]; omega
  have w6 : IntKind.u16.wrap (256 * (b4 % 64) + b3) = 256 * (b4 % 64) + b3 := by rw [IntKind.wrap_u16]; omega
  have z4 : 256 * (b4 % 64) % 65536 = 256 * (b4 % 64) := by omega
  have z6 : (256 * (b4 % 64) + b3) % 65536 = 256 * (b4 % 64) + b3 := by omega
  have hx1 : x.block ≠ w.heap.size := by omega
  have hx2 : x.block < w.heap.size + 1 := by omega
  have E := hid (show ckV (laidC b0 b1 b2 b3 b4) = .agg #[.int .u8 b0, .int .u8 b1, .int .u8 b2, .int .u16 (256 * (b4 % 64) + b3), .bool (bits .and .u8 b4 64 != 0), .bool (bits .and .u8 b4 128 != 0)] by rw [m2, m3]; rfl)
  have M2 := hid m2
  have M3 := hid m3
  clear m2 m3
  go_enter Tryz.func66, Tryz.ntmps66
  go_wp2_with fail
  go_region_held3 (fun w' => x.block < w'.heap.size ∧ w'.cell? x = some (.int .u8 b0) ∧ w'.cell? ⟨x.block, x.off + 1, none⟩ = some (.int .u8 b1) ∧ w'.cell? ⟨x.block, x.off + 2, none⟩ = some (.int .u8 b2) ∧ w'.cell? ⟨x.block, x.off + 3, none⟩ = some (.int .u8 b3) ∧ w'.cell? ⟨x.block, x.off + 4, none⟩ = some (.int .u8 b4)) (go_keep) (fail)
  all_goals
    go_wp2
    refine bodyPost_ret (v := .agg #[.int .u8 b0, .int .u8 b1, .int .u8 b2, .int .u16 (256 * (b4 % 64) + b3), .bool (bits .and .u8 b4 64 != 0), .bool (bits .and .u8 b4 128 != 0)]) (by simp [results, Tryz.results66, go_sem]) rfl ⟨by rw [E.out], by rw [M2.out, M3.out]; rfl⟩
end Go.Proofs.YtfmddnekooojkaaGreatDoor
