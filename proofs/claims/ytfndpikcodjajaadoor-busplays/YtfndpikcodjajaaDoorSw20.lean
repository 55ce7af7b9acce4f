/- The examples at the head of layer 20's laws. -/
import Derived.Test.YtfndpikcodjajaaDoorPb20c
namespace Go.Proofs.YtfndpikcodjajaaDoor
open Go.RowKit
set_option linter.unusedVariables false
set_option linter.unusedSimpArgs false

theorem shown_get : getP (putP M0 49152 7) 57344 = 7 := by
  unfold getP putP
  rw [if_pos (show keepR (regP 57344) = true from rfl), if_pos (show keepR (regP 49152) = true from rfl), show plN 57344 = 8192 from rfl, show plN 49152 = 8192 from rfl, List.getD_eq_getElem?_getD, List.getElem?_set_self (by rw [M0_len]; decide)]
  rfl
set_option maxRecDepth 100000 in
set_option maxHeartbeats 4000000 in
theorem kshown20 (w : World) (lay : Lay20 w) : Calls Tryd.prog 9 #[] w fun e w' => e = .returned (.bool true) ∧ Kept w w' := by
  have LY : Hid (∀ u, Kept w u → Lay20 u) := fun u k => lay20_kept lay k
  have ef : ∀ (u : World) (b : Nat), (binOp .eql 31 (.pointer (some ⟨b, 0, none⟩)) (.pointer none)).run Tryd.prog u = .ok (.bool false) u := fun _ _ => rfl
  clear lay
  go_enter Tryd.func9, Tryd.ntmps9
  go_wp2_with fail
  refine (preg20 57349 _ (LY.out _ (Kept.refl w)) (by decide) (by decide)).mono ?_
  rw [show regP 57349 = 3 from rfl, show atP20 57349 = 5 from rfl]
  rintro e u1 ⟨rfl, k1⟩
  have K1 := hid k1
  clear k1
  go_wp2_with fail
  refine (preg20 65408 _ (LY.out _ K1.out) (by decide) (by decide)).mono ?_
  rw [show regP 65408 = 7 from rfl, show atP20 65408 = 0 from rfl]
  rintro e u2 ⟨rfl, k2⟩
  have K2 := hid (K1.out.trans k2)
  clear k2
  go_wp2_with fail
  refine (pnew20 _ (LY.out _ K2.out)).mono ?_
  rintro e u3 ⟨rfl, m3, k3⟩
  have K3 := hid (K2.out.trans k3)
  have M3 := hid m3
  have N3 : Hid (w.heap.size ≤ u2.heap.size) := K2.out.size
  clear k3 m3
  go_wp2_with fail
  refine (pput20 _ M0 49152 7 _ M3.out (LY.out _ K3.out) (by decide) (by decide) ⟨by decide, by decide⟩).mono ?_
  rintro e u4 ⟨rfl, m4, k4⟩
  have K4 := hid (k4.kept K3.out (fun j q => by rw [q]; exact N3.out))
  have M4 := hid m4
  clear k4 m4
  go_wp2_with fail
  refine (plin20 36864 _ (LY.out _ K4.out) (by decide) (by decide)).mono ?_
  rw [show linP 36864 = 1 from rfl]
  rintro e u5 ⟨rfl, k5⟩
  have K5 := hid (K4.out.trans k5)
  have M5 := hid (mem_kept M4.out k5)
  clear k5
  go_wp2_with fail
  refine (plin20 65024 _ (LY.out _ K5.out) (by decide) (by decide)).mono ?_
  rw [show linP 65024 = 2 from rfl]
  rintro e u6 ⟨rfl, k6⟩
  have K6 := hid (K5.out.trans k6)
  have M6 := hid (mem_kept M5.out k6)
  clear k6
  go_wp2_with fail
  refine (pget20 _ _ 57344 _ M6.out (LY.out _ K6.out) (by decide) (by decide)).mono ?_
  rw [shown_get]
  rintro e u7 ⟨rfl, k7⟩
  have K7 := hid (K6.out.trans k7)
  clear k7
  go_wp2_with fail
  refine (pmeet20 49152 16384 true _ (LY.out _ K7.out) (by decide) (by decide) (by decide) (by decide)).mono ?_
  rw [show meetP 49152 16384 true = true from rfl]
  rintro e u8 ⟨rfl, k8⟩
  have K8 := hid (K7.out.trans k8)
  clear k8
  go_wp2
  go_ret
  exact ⟨rfl, K8.out⟩
end Go.Proofs.YtfndpikcodjajaaDoor
