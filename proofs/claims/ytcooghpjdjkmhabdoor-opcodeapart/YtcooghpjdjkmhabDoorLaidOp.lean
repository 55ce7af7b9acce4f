/- The laid table of layer 5 (the kinds behind the prefix), cell by cell; the door's own heap meets the condition. -/
import Derived.Test.YtcooghpjdjkmhabDoorLaid
namespace Go.Proofs.YtcooghpjdjkmhabDoor
open Go.ChangeShapes Go.WideShapes Go.ChangeAt Go.RowKit

theorem door_met (os : Os) (args : Array Value) : laidMetH Tryd.prog Rows.opcodeApartRow.laid ((World.doorLaid Tryd.prog 400 os).forCall (fun _ _ => 0) ⟨#[], args, []⟩).memory :=
  laidMetH_of_parts3 (fuel := 8) (laidMet_of_run' 8 (by kernel_rfl) (by kernel_rfl)) (by kernel_rfl) (by kernel_rfl)
theorem laid_name : Tryd.prog.globalNamed (Rows.opcodeApartRow.named.headD default) = some 0 := by kernel_rfl
theorem laid_type : (Tryd.prog.globals[0]?).map (·.type) = some 33 := by kernel_rfl
theorem of_laid {W : World} (h : laidMetH Tryd.prog Rows.opcodeApartRow.laid W) : Has W 0 #[.int .i64 43, .int .i64 4, .int .i64 44, .int .i64 3, .int .i64 45, .int .i64 4, .int .i64 46, .int .i64 4] := by
  rw [MakeChecks.laidMetH_plain _ _ _ (by kernel_rfl)] at h
  obtain ⟨ps, ⟨g, t, cs, f, p, q, hg, ht, hv, hd, _, _⟩, _, _⟩ := h
  obtain rfl := Option.some.inj (laid_name.symm.trans hg)
  obtain rfl := Option.some.inj (laid_type.symm.trans ht)
  exact has_var (k := 4) (l := [.int .i64 43, .int .i64 4, .int .i64 44, .int .i64 3, .int .i64 45, .int .i64 4, .int .i64 46, .int .i64 4]) hg hv hd (by kernel_rfl) (by decide)
end Go.Proofs.YtcooghpjdjkmhabDoor
