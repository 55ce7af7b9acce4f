/- What the document's answers of layer 9 come to: one. -/
import Derived.Test.YtpnidlibgpbjgaaRck9
import Derived.Test.YtpnidlibgpbjgaaRow7
import Derived.Deep.RegionHeld3
namespace Go.Proofs.Ytpnidlibgpbjgaa
open Go.RowKit
set_option linter.unusedVariables false
set_option linter.unusedSimpArgs false

def oneBad (b0 b1 b2 b4 : Int) : Prop := 63 < b0 ∨ 63 < b1 ∨ 31 < b2 ∨ 1 < b4 % 64
def oneC (b0 b1 b2 b3 b4 : Int) : Ck := ⟨b0, b1, b2, b4 % 2 * 256 + b3, b4 / 64 % 2 == 1, decide (128 ≤ b4)⟩
set_option maxRecDepth 100000 in
set_option maxHeartbeats 8000000 in
theorem rone_any (b0 b1 b2 b3 b4 : Int) (x : Addr) (cap : Nat) (w : World) (i0 : InByte b0) (i1 : InByte b1) (i2 : InByte b2) (i3 : InByte b3) (i4 : InByte b4) (hx : x.block < w.heap.size)
    (c0 : w.cell? x = some (.int .u8 b0)) (c1 : w.cell? ⟨x.block, x.off + 1, none⟩ = some (.int .u8 b1)) (c2 : w.cell? ⟨x.block, x.off + 2, none⟩ = some (.int .u8 b2)) (c3 : w.cell? ⟨x.block, x.off + 3, none⟩ = some (.int .u8 b3)) (c4 : w.cell? ⟨x.block, x.off + 4, none⟩ = some (.int .u8 b4)) :
    Calls Try.prog 27 #[.slice (some x) 5 cap] w fun e w' => ((oneBad b0 b1 b2 b4 ∧ e = .returned (.tuple #[ckV ck0, .bool false])) ∨ (¬ oneBad b0 b1 b2 b4 ∧ e = .returned (.tuple #[ckV (oneC b0 b1 b2 b3 b4), .bool true]))) ∧ Grown w w' := by
  obtain ⟨p0, q0⟩ := i0
  obtain ⟨p1, q1⟩ := i1
  obtain ⟨p2, q2⟩ := i2
  obtain ⟨p3, q3⟩ := i3
  obtain ⟨p4, q4⟩ := i4
  have t1 : Int.tmod b4 64 = b4 % 64 := Int.tmod_eq_emod_of_nonneg p4
  have t2 : Int.tmod b4 2 = b4 % 2 := Int.tmod_eq_emod_of_nonneg p4
  have t3 : Int.tdiv b4 64 = b4 / 64 := Int.tdiv_eq_ediv_of_nonneg p4
  have t4 : Int.tmod (b4 / 64) 2 = b4 / 64 % 2 := Int.tmod_eq_emod_of_nonneg (by omega)
  have w1 : IntKind.u8.wrap (b4 % 64) = b4 % 64 := by rw [IntKind.wrap_u8]; omega
  have w2 : IntKind.u8.wrap (b4 % 2) = b4 % 2 := by rw [IntKind.wrap_u8]; omega
  have w3 : IntKind.u16.wrap (b4 % 2) = b4 % 2 := by rw [IntKind.wrap_u16]; omega
  have w4 : IntKind.u16.wrap (b4 % 2 * 256) = b4 % 2 * 256 := by rw [IntKind.wrap_u16]; omega
  have w5 : IntKind.u16.wrap b3 = b3 := by rw [IntKind.wrap_u16]; omega
  have w6 : IntKind.u16.wrap (b4 % 2 * 256 + b3) = b4 % 2 * 256 + b3 := by rw [IntKind.wrap_u16]; omega
  have w7 : IntKind.u8.wrap (b4 / 64) = b4 / 64 := by rw [IntKind.wrap_u8]; omega
  have w8 : IntKind.u8.wrap (b4 / 64 % 2) = b4 / 64 % 2 := by rw [IntKind.wrap_u8]; omega
  have z4 : b4 % 2 * 256 % 65536 = b4 % 2 * 256 := by omega
  have z6 : (b4 % 2 * 256 + b3) % 65536 = b4 % 2 * 256 + b3 := by omega
  have hx1 : x.block ≠ w.heap.size := by omega
  have hx2 : x.block < w.heap.size + 1 := by omega
  by_cases h0 : 63 < b0
  · have B := hid (show oneBad b0 b1 b2 b4 from .inl h0)
    have d0 : decide (63 < b0) = true := decide_eq_true h0
    go_enter Try.func27, Try.ntmps27
    go_wp2
    exact bodyPost_ret (v := .tuple #[ckV ck0, .bool false]) (by simp [results, Try.results27, go_sem, ck0]) rfl ⟨.inl ⟨B.out, rfl⟩, by repeat (first | with_reducible exact Grown.refl _ | with_reducible refine Grown.alloc ?_ _ _ | with_reducible refine Grown.setCell ?_ (Nat.le_refl _) _)⟩
  have d0 : decide (63 < b0) = false := decide_eq_false h0
  by_cases h1 : 63 < b1
  · have B := hid (show oneBad b0 b1 b2 b4 from .inr (.inl h1))
    have d1 : decide (63 < b1) = true := decide_eq_true h1
    go_enter Try.func27, Try.ntmps27
    go_wp2
    exact bodyPost_ret (v := .tuple #[ckV ck0, .bool false]) (by simp [results, Try.results27, go_sem, ck0]) rfl ⟨.inl ⟨B.out, rfl⟩, by repeat (first | with_reducible exact Grown.refl _ | with_reducible refine Grown.alloc ?_ _ _ | with_reducible refine Grown.setCell ?_ (Nat.le_refl _) _)⟩
  have d1 : decide (63 < b1) = false := decide_eq_false h1
  by_cases h2 : 31 < b2
  · have B := hid (show oneBad b0 b1 b2 b4 from .inr (.inr (.inl h2)))
    have d2 : decide (31 < b2) = true := decide_eq_true h2
    go_enter Try.func27, Try.ntmps27
    go_wp2
    exact bodyPost_ret (v := .tuple #[ckV ck0, .bool false]) (by simp [results, Try.results27, go_sem, ck0]) rfl ⟨.inl ⟨B.out, rfl⟩, by repeat (first | with_reducible exact Grown.refl _ | with_reducible refine Grown.alloc ?_ _ _ | with_reducible refine Grown.setCell ?_ (Nat.le_refl _) _)⟩
  have d2 : decide (31 < b2) = false := decide_eq_false h2
  by_cases h4 : 1 < b4 % 64
  · have B := hid (show oneBad b0 b1 b2 b4 from .inr (.inr (.inr h4)))
    have d4 : decide (1 < b4 % 64) = true := decide_eq_true h4
    go_enter Try.func27, Try.ntmps27
    go_wp2
    exact bodyPost_ret (v := .tuple #[ckV ck0, .bool false]) (by simp [results, Try.results27, go_sem, ck0]) rfl ⟨.inl ⟨B.out, rfl⟩, by repeat (first | with_reducible exact Grown.refl _ | with_reducible refine Grown.alloc ?_ _ _ | with_reducible refine Grown.setCell ?_ (Nat.le_refl _) _)⟩
  have d4 : decide (1 < b4 % 64) = false := decide_eq_false h4
  have B := hid (show ¬ oneBad b0 b1 b2 b4 by unfold oneBad; omega)
  go_enter Try.func27, Try.ntmps27
  go_wp2_with fail
  go_region_held3 (fun w' => x.block < w'.heap.size ∧ w'.cell? x = some (.int .u8 b0) ∧ w'.cell? ⟨x.block, x.off + 1, none⟩ = some (.int .u8 b1) ∧ w'.cell? ⟨x.block, x.off + 2, none⟩ = some (.int .u8 b2) ∧ w'.cell? ⟨x.block, x.off + 3, none⟩ = some (.int .u8 b3) ∧ w'.cell? ⟨x.block, x.off + 4, none⟩ = some (.int .u8 b4)) (go_keep) (fail)
  all_goals
    go_wp2
    exact bodyPost_ret (v := .tuple #[ckV (oneC b0 b1 b2 b3 b4), .bool true]) (by simp [results, Try.results27, go_sem, oneC]) rfl ⟨.inr ⟨B.out, rfl⟩, by repeat (first | with_reducible exact Grown.refl _ | with_reducible refine Grown.drew ?_ | with_reducible refine Grown.alloc ?_ _ _ | with_reducible refine Grown.setCell ?_ (Nat.le_refl _) _)⟩
end Go.Proofs.Ytpnidlibgpbjgaa
