/- The document's examples that each statement of layer 4 asks first: they come out true, over this seat's translation. -/
import Derived.Test.YticamagmccapoaaDoorRows
import Derived.Test.YticamagmccapoaaDoorBits
import Derived.Test.YticamagmccapoaaDoorGrow
import Derived.Test.YticamagmccapoaaDoorGrow2
import Derived.Test.YticamagmccapoaaDoorRg
import Derived.Deep.QuietTactic
import Derived.BigQuiet
import Derived.Deep.RegionHeld3
import Derived.Deep.DeepCutAuto
import Derived.Test.YticamagmccapoaaDoorRegs5
import Derived.Test.YticamagmccapoaaDoorRefRegs2
namespace Go.Proofs.YticamagmccapoaaDoor
open Go.RowKit
set_option linter.unusedVariables false
set_option linter.unusedSimpArgs false

def bootR : Rg := ⟨1, 176, 0, 19, 0, 216, 1, 77, 65534, 256⟩
theorem boot_ok : bootR.ok := by unfold Rg.ok bootR; decide
set_option maxHeartbeats 8000000 in
theorem shown4_any (w : World) (lay : Has w 0 #[.string ⟨#[65, 70]⟩, .int .i64 4, .string ⟨#[66, 67]⟩, .int .i64 0, .string ⟨#[68, 69]⟩, .int .i64 1, .string ⟨#[72, 76]⟩, .int .i64 2, .string ⟨#[83, 80]⟩, .int .i64 3]) : Calls Tryd.prog 5 #[] w fun e w' => e = .returned (.bool true) ∧ Grown w w' := by
  have d1 := hid (show getOf 5 bootR = 77 from rfl)
  have d2 := hid (show mayOf 5 = 0 from rfl)
  have d3 := hid (show pairOf 4 bootR = 432 from rfl)
  have d4 := hid (show pairErr 4 = 0 from rfl)
  have d5 := hid (show holdsOf 1 bootR = true by decide +kernel)
  have d6 := hid (show textOf bootR = ⟨#[65, 70, 61, 48, 49, 66, 48, 32, 66, 67, 61, 48, 48, 49, 51, 32, 68, 69, 61, 48, 48, 68, 56, 32, 72, 76, 61, 48, 49, 52, 68, 32, 83, 80, 61, 70, 70, 70, 69, 32, 80, 67, 61, 48, 49, 48, 48]⟩ by decide +kernel)
  go_enter Tryd.func5, Tryd.ntmps5
  go_wp2_with fail
  refine (boot_any _).mono ?_
  rintro e u1 ⟨rfl, g1⟩
  have G1 := hid (grown_trans (Grown.refl w) g1)
  go_wp2_with fail
  refine (get_any bootR _ _).mono ?_
  rintro e u2 ⟨rfl, g2⟩
  rw [d1.out, d2.out]
  have B2n0x2 := has_grown g2 (has_alloc _ _ _)
  obtain ⟨zB2n0x2, cB2n0x2⟩ := id B2n0x2
  have G2 := hid (grown_trans (G1.out.alloc _ _) g2)
  go_wp2_with fail
  refine (pair_any bootR _ _ boot_ok).mono ?_
  rintro e u3 ⟨rfl, g3⟩
  rw [d3.out, d4.out]
  have B2n0x3 := has_grown g3 B2n0x2
  obtain ⟨zB2n0x3, cB2n0x3⟩ := id B2n0x3
  have G3 := hid (grown_trans G2.out g3)
  have L3 := has_grown g3 (has_grown g2 (has_past (has_grown g1 lay) (.cells #[.int .u8 1, .int .u8 176, .int .u8 0, .int .u8 19, .int .u8 0, .int .u8 216, .int .u8 1, .int .u8 77, .int .u16 65534, .int .u16 256] 25)))
  go_wp2
  go_region_held3 (fun w' => u1.heap.size < w'.heap.size ∧ w'.cell? ⟨u1.heap.size, 0, none⟩ = some (.int .u8 1) ∧ w'.cell? ⟨u1.heap.size, 1, none⟩ = some (.int .u8 176) ∧ w'.cell? ⟨u1.heap.size, 2, none⟩ = some (.int .u8 0) ∧ w'.cell? ⟨u1.heap.size, 3, none⟩ = some (.int .u8 19) ∧ w'.cell? ⟨u1.heap.size, 4, none⟩ = some (.int .u8 0) ∧ w'.cell? ⟨u1.heap.size, 5, none⟩ = some (.int .u8 216) ∧ w'.cell? ⟨u1.heap.size, 6, none⟩ = some (.int .u8 1) ∧ w'.cell? ⟨u1.heap.size, 7, none⟩ = some (.int .u8 77) ∧ w'.cell? ⟨u1.heap.size, 8, none⟩ = some (.int .u16 65534) ∧ w'.cell? ⟨u1.heap.size, 9, none⟩ = some (.int .u16 256)) (go_keep) (first | (go_at_call 15; refine (rboot_any _).mono ?_; rintro e v1 ⟨rfl, q1⟩; have D1l := has_grown q1 L3; have D1b0 := has_grown q1 B2n0x3; obtain ⟨zD1b0, cD1b0⟩ := id D1b0) | (go_at_call 16; refine (holds_any bootR _ _ boot_ok).mono ?_; rintro e v2 ⟨rfl, q2⟩; rw [d5.out]; have D2l := has_grown q2 D1l; have D2b0 := has_grown q2 D1b0; obtain ⟨zD2b0, cD2b0⟩ := id D2b0) | (go_at_call 12; refine (text_any bootR _ boot_ok D2l).mono ?_; rintro e v3 ⟨rfl, q3⟩; rw [d6.out]; have D3l := has_grown q3 D2l; have D3b0 := has_grown q3 D2b0; obtain ⟨zD3b0, cD3b0⟩ := id D3b0))
  all_goals
    go_wp2
    go_ret
    exact ⟨rfl, grown_trans (grown_trans (grown_trans G3.out q1) q2) q3⟩
end Go.Proofs.YticamagmccapoaaDoor
