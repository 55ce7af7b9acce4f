/- The library's contract that layer 16 takes, at this seat's translation (laid by the kit's own commands, in their plain mode). -/
import Derived.Shelf.SlGeneric
import Derived.Shelf.SlLaysF0
import Derived.Test.YtaknbjignaefkaaProg
namespace Go.Proofs
open Go.Shelf
def Try.ins16_ren : Go.Shelf.Ren := ⟨fun | 20 => 39 | n => n, fun | 24 => 31 | 22 => 25 | 3 => 3 | 25 => 43 | 4 => 4 | 0 => 0 | n => n, fun | n => n⟩
theorem Try.ins16 : Go.Proofs.SlLaysF0.n20 Try.prog Try.ins16_ren := {
  mixed := by kernel_rfl
  f20 := ⟨Try.f39.name, by decide, Try.func39.trans (congrArg some (by kernel_rfl))⟩
  t0 := Try.underlying0
  a0 := Try.isAgg0
  z0 := Try.sizeOf0
  v0 := Try.zeroValue0
  t3 := Try.underlying3
  a3 := Try.isAgg3
  z3 := Try.sizeOf3
  v3 := Try.zeroValue3
  t4 := Try.underlying4
  a4 := Try.isAgg4
  z4 := Try.sizeOf4
  v4 := Try.zeroValue4
  t22 := Try.underlying25
  a22 := Try.isAgg25
  z22 := Try.sizeOf25
  v22 := Try.zeroValue25
  t25 := Try.underlying43
  a25 := Try.isAgg43
  z25 := Try.sizeOf43
  v25 := Try.zeroValue43 }
end Go.Proofs
