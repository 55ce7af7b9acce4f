/- What operandsOf of layer 6 comes to, kind by kind: the rest. -/
import Derived.Test.YtlchkflpaehgcaaDoorCo
namespace Go.Proofs.YtlchkflpaehgcaaDoor
open Go.RowKit
set_option linter.unusedVariables false
set_option linter.unusedSimpArgs false

set_option maxHeartbeats 4000000 in
set_option maxRecDepth 100000 in
theorem ops45 (op x y p q r : Int) (b c : ByteArray) (w : World) (lay : Lay w) (hb : b.size ≤ 1000) (hc : c.size ≤ 1000) (x0 : 0 ≤ x) (x1 : x ≤ 7) (y0 : 0 ≤ y) (y1 : y ≤ 7) : Calls Tryd.prog 28 #[.int .u8 op, .agg #[.int .i64 45, .int .i64 x, .int .i64 y, .int .i64 p, .int .i64 q, .int .i64 r], .string b, .string c] w fun e w' => ∃ v, e = .returned v ∧ Strs w' v [bs [48 + x.toNat], tabS regL y] ∧ Kept w w' := by
  have zreg := lay.reg.1
  have TY := has_tab lay.reg y y0 (by simp [regL]; omega)
  generalize tabS regL y = Y at TY ⊢
  clear lay
  go_enter Tryd.func28, Tryd.ntmps28
  go_wp2
  go_region_with (go_at_call 52; refine (itoa_any x _ x0 x1).mono ?_; rintro e u1 ⟨rfl, rfl⟩)
  all_goals
    go_wp2
    go_ret
    exact ⟨_, rfl, strs_two_at _ _ (by simp) _ _ _, (by first | exact Kept.refl _ | exact (Kept.refl w).alloc _ | exact ((Kept.refl w).alloc _).alloc _ | exact (((Kept.refl w).alloc _).alloc _).alloc _ | exact (((Kept.refl w).alloc _).alloc _).drew | exact ((((Kept.refl w).alloc _).alloc _).alloc _).drew)⟩
end Go.Proofs.YtlchkflpaehgcaaDoor
