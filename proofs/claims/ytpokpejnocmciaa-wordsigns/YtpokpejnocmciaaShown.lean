/- The document's examples that each statement of layer 1 asks first: they come out true, over this seat's translation. -/
import Derived.Test.YtpokpejnocmciaaRead
namespace Go.Proofs.Ytpokpejnocmciaa
open Go.RowKit

theorem hid {p : Prop} (h : p) : Hid p := h
set_option maxHeartbeats 1000000 in
theorem shown_any (w : World) : Calls Try.prog 9 #[] w fun e w' => e = .returned (.bool true) ∧ Grown w w' := by
  have r1 : readVal (ByteArray.mk #[102, 70]) 2 = 255 := by decide +kernel
  have r2 : readErr (ByteArray.mk #[102, 70]) 2 = 0 := by decide +kernel
  have r3 : bitOf 130 7 = true := by decide +kernel
  have r4 : bitOf 130 6 = false := by decide +kernel
  have r5 : putOf 0 3 true = 8 := by decide +kernel
  have r6 : signedOf 254 = -2 := by decide +kernel
  have r7 : turnOf 129 (-1) = 192 := by decide +kernel
  have r8 : mirrorOf 1 = 128 := by decide +kernel
  have r9 : hex16Of 45054 = ByteArray.mk #[65, 70, 70, 69] := by decide +kernel
  have R1 := hid r1
  have R2 := hid r2
  have R3 := hid r3
  have R4 := hid r4
  have R5 := hid r5
  have R6 := hid r6
  have R7 := hid r7
  have R8 := hid r8
  have R9 := hid r9
  clear r1 r2 r3 r4 r5 r6 r7 r8 r9
  go_enter Try.func9, Try.ntmps9
  go_wp2_with fail
  refine (read_any _ _ _ (by decide)).mono ?_
  rintro e w1 ⟨rfl, g1⟩
  rw [R1.out, R2.out]
  go_wp2_with fail
  refine (bit_any _ _ _ (by decide) (by decide)).mono ?_
  rintro e w2 ⟨rfl, rfl⟩
  rw [R3.out]
  go_wp2_with fail
  refine (bit_any _ _ _ (by decide) (by decide)).mono ?_
  rintro e w2 ⟨rfl, rfl⟩
  rw [R4.out]
  go_wp2_with fail
  refine (put_any _ _ _ _ (by decide) (by decide)).mono ?_
  rintro e w2 ⟨rfl, rfl⟩
  rw [R5.out]
  go_wp2_with fail
  refine (signed_any _ _ (by decide) (by decide)).mono ?_
  rintro e w2 ⟨rfl, rfl⟩
  rw [R6.out]
  go_wp2_with fail
  refine (turn_any _ _ _ (by decide) (by decide)).mono ?_
  rintro e w2 ⟨rfl, rfl⟩
  rw [R7.out]
  go_wp2_with fail
  refine (mirror_any _ _ (by decide) (by decide)).mono ?_
  rintro e w2 ⟨rfl, rfl⟩
  rw [R8.out]
  go_wp2_with fail
  refine (hex16_any _ _ (by decide) (by decide)).mono ?_
  rintro e w3 ⟨rfl, g3⟩
  rw [R9.out]
  go_wp2
  go_ret
  exact ⟨rfl, grown_trans g1 g3⟩
end Go.Proofs.Ytpokpejnocmciaa
