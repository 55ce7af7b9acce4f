/- The laid table of layer 4 (the pairs in the order of a text), cell by cell; the door's own heap meets the condition. -/
import Derived.Test.YticamagmccapoaaDoorLaid
namespace Go.Proofs.YticamagmccapoaaDoor
open Go.ChangeShapes Go.WideShapes Go.ChangeAt Go.RowKit

theorem door_met (os : Os) (args : Array Value) : laidMetH Tryd.prog Rows.regsParsesRow.laid ((World.doorLaid Tryd.prog 400 os).forCall (fun _ _ => 0) ⟨#[], args, []⟩).memory :=
  laidMetH_of_parts3 (fuel := 8) (laidMet_of_run' 8 (by kernel_rfl) (by kernel_rfl)) (by kernel_rfl) (by kernel_rfl)
theorem laid_name : Tryd.prog.globalNamed (Rows.regsParsesRow.named.headD default) = some 0 := by kernel_rfl
theorem laid_type : (Tryd.prog.globals[0]?).map (·.type) = some 46 := by kernel_rfl
theorem of_laid {W : World} (h : laidMetH Tryd.prog Rows.regsParsesRow.laid W) : Has W 0 #[.string ⟨#[65, 70]⟩, .int .i64 4, .string ⟨#[66, 67]⟩, .int .i64 0, .string ⟨#[68, 69]⟩, .int .i64 1, .string ⟨#[72, 76]⟩, .int .i64 2, .string ⟨#[83, 80]⟩, .int .i64 3] := by
  rw [MakeChecks.laidMetH_plain _ _ _ (by kernel_rfl)] at h
  obtain ⟨ps, ⟨g, t, cs, f, p, q, hg, ht, hv, hd, _, _⟩, _, _⟩ := h
  obtain rfl := Option.some.inj (laid_name.symm.trans hg)
  obtain rfl := Option.some.inj (laid_type.symm.trans ht)
  exact has_var (k := 4) (l := [.string ⟨#[65, 70]⟩, .int .i64 4, .string ⟨#[66, 67]⟩, .int .i64 0, .string ⟨#[68, 69]⟩, .int .i64 1, .string ⟨#[72, 76]⟩, .int .i64 2, .string ⟨#[83, 80]⟩, .int .i64 3]) hg hv hd (by kernel_rfl) (by decide)
end Go.Proofs.YticamagmccapoaaDoor
