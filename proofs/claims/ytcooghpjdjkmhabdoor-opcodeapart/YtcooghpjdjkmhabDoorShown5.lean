/- The document's examples of layer 5, at the statements' head. -/
import Derived.Test.YtcooghpjdjkmhabDoorOp5
namespace Go.Proofs.YtcooghpjdjkmhabDoor
open Go.RowKit
set_option linter.unusedVariables false
set_option linter.unusedSimpArgs false

theorem shown5_any (w : World) (lay : Has w 0 #[.int .i64 43, .int .i64 4, .int .i64 44, .int .i64 3, .int .i64 45, .int .i64 4, .int .i64 46, .int .i64 4]) : Calls Tryd.prog 5 #[] w fun e w' => e = .returned (.bool true) ∧ Grown w w' := by
  have vdecOf620 : (decOf 62).kind = 8 := rfl
  have vdecOf621 : (decOf 62).x = 7 := rfl
  have vdecOf622 : (decOf 62).y = 0 := rfl
  have vdecOf623 : (decOf 62).bytes = 2 := rfl
  have vdecOf624 : (decOf 62).cycles = 2 := rfl
  have vdecOf625 : (decOf 62).taken = 2 := rfl
  have vdecOf1950 : (decOf 195).kind = 37 := rfl
  have vdecOf1951 : (decOf 195).x = 4 := rfl
  have vdecOf1952 : (decOf 195).y = 0 := rfl
  have vdecOf1953 : (decOf 195).bytes = 3 := rfl
  have vdecOf1954 : (decOf 195).cycles = 4 := rfl
  have vdecOf1955 : (decOf 195).taken = 4 := rfl
  have vcbOf1260 : (cbOf 126).kind = 44 := rfl
  have vcbOf1261 : (cbOf 126).x = 7 := rfl
  have vcbOf1262 : (cbOf 126).y = 6 := rfl
  have vcbOf1263 : (cbOf 126).bytes = 2 := rfl
  have vcbOf1264 : (cbOf 126).cycles = 3 := rfl
  have vcbOf1265 : (cbOf 126).taken = 3 := rfl
  have vi : illOf 211 = true := rfl
  go_enter Tryd.func5, Tryd.ntmps5
  go_wp2_with fail
  refine (decode_any 62 _ (by decide) (by decide)).mono ?_
  rintro e u1 ⟨rfl, g1⟩
  go_wp2_with fail
  refine (decode_any 195 _ (by decide) (by decide)).mono ?_
  rintro e u2 ⟨rfl, g2⟩
  go_wp2_with fail
  refine (illegal_any 211 _ (by decide) (by decide)).mono ?_
  rintro e u3 ⟨rfl, g3⟩
  have G := hid (grown_trans (grown_trans g1 g2) g3)
  go_wp2_with fail
  refine (decodeCB_any 126 _ (by decide) (by decide) (has_grown G.out lay)).mono ?_
  rintro e u4 ⟨rfl, g4⟩
  go_wp2
  go_ret
  exact ⟨rfl, grown_trans G.out g4⟩
end Go.Proofs.YtcooghpjdjkmhabDoor
