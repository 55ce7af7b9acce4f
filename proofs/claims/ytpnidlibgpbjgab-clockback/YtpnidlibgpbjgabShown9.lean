/- The examples at the head of layer 9's laws hold. -/
import Derived.Test.YtpnidlibgpbjgabPg9b
import Derived.Test.YtpnidlibgpbjgabPg9c
import Derived.Test.YtpnidlibgpbjgabRck9c
namespace Go.Proofs.Ytpnidlibgpbjgab
open Go.RowKit
set_option linter.unusedVariables false
set_option linter.unusedSimpArgs false

set_option maxRecDepth 100000 in
set_option maxHeartbeats 4000000 in
theorem shown9 (w : World) : Calls Try.prog 6 #[] w fun e w' => e = .returned (.bool true) ∧ Kept w w' := by
  have C1 := hid (fun u => ctick_any ⟨59, 59, 23, 511, false, false⟩ u ⟨by decide, by decide, by decide, by decide, by decide, by decide, by decide, by decide⟩)
  rw [show tickC ⟨59, 59, 23, 511, false, false⟩ = ⟨0, 0, 0, 0, false, true⟩ from rfl] at C1
  have C2 := hid (fun u => ctick_any ⟨63, 5, 0, 0, false, false⟩ u ⟨by decide, by decide, by decide, by decide, by decide, by decide, by decide, by decide⟩)
  rw [show tickC ⟨63, 5, 0, 0, false, false⟩ = ⟨0, 5, 0, 0, false, false⟩ from rfl] at C2
  have C3 := hid (fun u => cread_any ⟨0, 0, 0, 300, false, false⟩ 12 u ⟨by decide, by decide, by decide, by decide, by decide, by decide, by decide, by decide⟩)
  rw [show readC ⟨0, 0, 0, 300, false, false⟩ 12 = 1 from rfl, show regE 12 = 0 from rfl] at C3
  have C4 := hid (fun u => cread_any ⟨0, 0, 0, 300, false, false⟩ 11 u ⟨by decide, by decide, by decide, by decide, by decide, by decide, by decide, by decide⟩)
  rw [show readC ⟨0, 0, 0, 300, false, false⟩ 11 = 44 from rfl, show regE 11 = 0 from rfl] at C4
  go_enter Try.func6, Try.ntmps6
  go_wp2_with fail
  refine (C1.out _).mono ?_
  rintro e u1 ⟨rfl, k1⟩
  have K1 := hid (k1.alloc (.cells #[.int .u8 0, .int .u8 0, .int .u8 0, .int .u16 0, .bool false, .bool true] 24))
  clear k1
  go_wp2_with fail
  refine (C2.out _).mono ?_
  rintro e u2 ⟨rfl, k2⟩
  have H1 := hid (has_past (hasK k2 (has_alloc u1 #[.int .u8 0, .int .u8 0, .int .u8 0, .int .u16 0, .bool false, .bool true] 24)) (.cells #[.int .u8 0, .int .u8 5, .int .u8 0, .int .u16 0, .bool false, .bool false] 24))
  have K2 := hid ((K1.out.trans k2).alloc (.cells #[.int .u8 0, .int .u8 5, .int .u8 0, .int .u16 0, .bool false, .bool false] 24))
  clear k2
  go_wp2_with fail
  refine (C3.out _).mono ?_
  rintro e u3 ⟨rfl, k3⟩
  have H3 := hid (hasK k3 H1.out)
  have J3 := hid (hasK k3 (has_alloc u2 #[.int .u8 0, .int .u8 5, .int .u8 0, .int .u16 0, .bool false, .bool false] 24))
  have K3 := hid (K2.out.trans k3)
  clear k3
  go_wp2_with fail
  refine (C4.out _).mono ?_
  rintro e u4 ⟨rfl, k4⟩
  have H4 := hasK k4 H3.out
  have J4 := hasK k4 J3.out
  have K4 := hid (K3.out.trans k4)
  obtain ⟨zh, ch⟩ := id H4
  obtain ⟨zj, cj⟩ := id J4
  have h0 := ch 0
  have h1 := ch 1
  have h2 := ch 2
  have h3 := ch 3
  have h4 := ch 4
  have h5 := ch 5
  have j0 := cj 0
  have j1 := cj 1
  have j2 := cj 2
  have j3 := cj 3
  have j4 := cj 4
  have j5 := cj 5
  simp at h0 h1 h2 h3 h4 h5 j0 j1 j2 j3 j4 j5
  clear k4 H4 J4 ch cj
  go_wp2
  go_ret
  exact ⟨rfl, K4.out⟩
end Go.Proofs.Ytpnidlibgpbjgab
