/- Layer 11: the exact laws, as walks. -/
import Derived.Test.YthjpngfbabeboaaDoorSw11
import Derived.Test.YthjpngfbabeboaaDoorRtm11c
namespace Go.Proofs.YthjpngfbabeboaaDoor
open Go.RowKit
set_option linter.unusedVariables false
set_option linter.unusedSimpArgs false

set_option maxRecDepth 100000 in
set_option maxHeartbeats 4000000 in
theorem hots11 (t : Tm) (w : World) (lay : Lay11 w) (I : TmIn t) : Calls Tryd.prog 3 #[tmV t] w fun e w' => e = .returned (.bool true) ∧ Kept w w' := by
  have S := hid (fun u (k : Kept w u) => kshown11 u (lay11_kept lay k))
  have A := hid (fun u (k : Kept w u) => phot11 t u (lay11_kept lay k) I)
  have B := hid (fun u => rhot11 t u I)
  generalize hotT t = V at *
  obtain ⟨dv, ta, tm, tc, ts⟩ := t
  try simp only at A B
  clear I
  go_enter Tryd.func3, Tryd.ntmps3
  go_wp2_with fail
  refine (S.out _ ((Kept.refl w).alloc _)).mono ?_
  rintro e u1 ⟨rfl, k1⟩
  have P1 := hid (show Blk u1 w.heap.size 24 [.int .u16 dv, .int .u8 ta, .int .u8 tm, .int .u8 tc, .int .u8 ts] from blk_kept k1 (blk_new w _ _))
  have K1 := hid (((Kept.refl w).alloc (.cells ([.int .u16 dv, .int .u8 ta, .int .u8 tm, .int .u8 tc, .int .u8 ts] : List Value).toArray 24)).trans k1)
  have c1 := blk_cell P1.out
  clear k1
  go_wp2_with fail
  go_region_held3 (fun w' => w'.cell? ⟨w.heap.size, 0, none⟩ = some (.int .u16 dv) ∧ w'.cell? ⟨w.heap.size, 1, none⟩ = some (.int .u8 ta) ∧ w'.cell? ⟨w.heap.size, 2, none⟩ = some (.int .u8 tm) ∧ w'.cell? ⟨w.heap.size, 3, none⟩ = some (.int .u8 tc) ∧ w'.cell? ⟨w.heap.size, 4, none⟩ = some (.int .u8 ts)) (go_keep) (first | (go_at_call 10; refine (A.out _ K1.out.drew).mono ?_; rintro e v1 ⟨rfl, q1⟩; have c2 := blk_cell (blk_kept q1 (blk_drew P1.out)); have KZ := hid (K1.out.drew.trans q1)) | (go_at_call 11; refine (B.out _).mono ?_; rintro e v2 ⟨rfl, q2⟩; have c3 := blk_cell (blk_kept q2 (blk_kept q1 (blk_drew P1.out))); have KY := hid (KZ.out.trans q2)))
  all_goals
    go_wp2
    go_ret
    exact ⟨rfl, KY.out⟩
set_option maxRecDepth 100000 in
set_option maxHeartbeats 4000000 in
theorem reads11 (t : Tm) (a : Int) (w : World) (lay : Lay11 w) (I : TmIn t) (a0 : 0 ≤ a) (a1 : a ≤ 65535) : Calls Tryd.prog 5 #[tmV t, .int .u16 a] w fun e w' => e = .returned (.bool true) ∧ Kept w w' := by
  have S := hid (fun u (k : Kept w u) => kshown11 u (lay11_kept lay k))
  have A := hid (fun u (k : Kept w u) => pread11 t a u (lay11_kept lay k) I a0 a1)
  have B := hid (fun u => rread11 t a u I a0 a1)
  generalize readT t a = V at *
  obtain ⟨dv, ta, tm, tc, ts⟩ := t
  try simp only at A B
  clear I
  go_enter Tryd.func5, Tryd.ntmps5
  go_wp2_with fail
  refine (S.out _ ((Kept.refl w).alloc _)).mono ?_
  rintro e u1 ⟨rfl, k1⟩
  have P1 := hid (show Blk u1 w.heap.size 24 [.int .u16 dv, .int .u8 ta, .int .u8 tm, .int .u8 tc, .int .u8 ts] from blk_kept k1 (blk_new w _ _))
  have K1 := hid (((Kept.refl w).alloc (.cells ([.int .u16 dv, .int .u8 ta, .int .u8 tm, .int .u8 tc, .int .u8 ts] : List Value).toArray 24)).trans k1)
  have c1 := blk_cell P1.out
  clear k1
  go_wp2_with fail
  go_region_held3 (fun w' => w'.cell? ⟨w.heap.size, 0, none⟩ = some (.int .u16 dv) ∧ w'.cell? ⟨w.heap.size, 1, none⟩ = some (.int .u8 ta) ∧ w'.cell? ⟨w.heap.size, 2, none⟩ = some (.int .u8 tm) ∧ w'.cell? ⟨w.heap.size, 3, none⟩ = some (.int .u8 tc) ∧ w'.cell? ⟨w.heap.size, 4, none⟩ = some (.int .u8 ts)) (go_keep) (first | (go_at_call 14; refine (A.out _ K1.out.drew).mono ?_; rintro e v1 ⟨rfl, q1⟩; have c2 := blk_cell (blk_kept q1 (blk_drew P1.out)); have KZ := hid (K1.out.drew.trans q1)) | (go_at_call 15; refine (B.out _).mono ?_; rintro e v2 ⟨rfl, q2⟩; have c3 := blk_cell (blk_kept q2 (blk_kept q1 (blk_drew P1.out))); have KY := hid (KZ.out.trans q2)))
  all_goals
    go_wp2
    go_ret
    exact ⟨rfl, KY.out⟩
set_option maxRecDepth 100000 in
set_option maxHeartbeats 4000000 in
theorem writes11 (t : Tm) (a v : Int) (w : World) (lay : Lay11 w) (I : TmIn t) (a0 : 0 ≤ a) (a1 : a ≤ 65535) (v0 : 0 ≤ v) (v1 : v ≤ 255) : Calls Tryd.prog 6 #[tmV t, .int .u16 a, .int .u8 v] w fun e w' => e = .returned (.bool true) ∧ Kept w w' := by
  have S := hid (fun u (k : Kept w u) => kshown11 u (lay11_kept lay k))
  have A := hid (fun u (k : Kept w u) => pwrite11 t a v u (lay11_kept lay k) I a0 a1 v0 v1)
  have B := hid (fun u => rwrite11 t a v u I a0 a1 v0 v1)
  generalize writeT t a v = V at *
  obtain ⟨dv, ta, tm, tc, ts⟩ := t
  try simp only at A B
  clear I
  go_enter Tryd.func6, Tryd.ntmps6
  go_wp2_with fail
  refine (S.out _ ((Kept.refl w).alloc _)).mono ?_
  rintro e u1 ⟨rfl, k1⟩
  have P1 := hid (show Blk u1 w.heap.size 24 [.int .u16 dv, .int .u8 ta, .int .u8 tm, .int .u8 tc, .int .u8 ts] from blk_kept k1 (blk_new w _ _))
  have K1 := hid (((Kept.refl w).alloc (.cells ([.int .u16 dv, .int .u8 ta, .int .u8 tm, .int .u8 tc, .int .u8 ts] : List Value).toArray 24)).trans k1)
  have c1 := blk_cell P1.out
  clear k1
  go_wp2_with fail
  go_region_held3 (fun w' => w'.cell? ⟨w.heap.size, 0, none⟩ = some (.int .u16 dv) ∧ w'.cell? ⟨w.heap.size, 1, none⟩ = some (.int .u8 ta) ∧ w'.cell? ⟨w.heap.size, 2, none⟩ = some (.int .u8 tm) ∧ w'.cell? ⟨w.heap.size, 3, none⟩ = some (.int .u8 tc) ∧ w'.cell? ⟨w.heap.size, 4, none⟩ = some (.int .u8 ts)) (go_keep) (first | (go_at_call 16; refine (A.out _ K1.out.drew).mono ?_; rintro e v1 ⟨rfl, q1⟩; have c2 := blk_cell (blk_kept q1 (blk_drew P1.out)); have KZ := hid (K1.out.drew.trans q1)) | (go_at_call 17; refine (B.out _).mono ?_; rintro e v2 ⟨rfl, q2⟩; have c3 := blk_cell (blk_kept q2 (blk_kept q1 (blk_drew P1.out))); have KY := hid (KZ.out.trans q2)))
  all_goals
    go_wp2
    go_ret
    exact ⟨rfl, KY.out⟩
set_option maxRecDepth 100000 in
set_option maxHeartbeats 4000000 in
theorem steps11 (t : Tm) (w : World) (lay : Lay11 w) (I : TmIn t) : Calls Tryd.prog 4 #[tmV t] w fun e w' => e = .returned (.bool true) ∧ Kept w w' := by
  have S := hid (fun u (k : Kept w u) => kshown11 u (lay11_kept lay k))
  have A := hid (fun u (k : Kept w u) => pstep11 t u (lay11_kept lay k) I)
  have B := hid (fun u => rstep11 t u I)
  generalize stepT t = V at *
  generalize askT t = Q at *
  obtain ⟨dv, ta, tm, tc, ts⟩ := t
  try simp only at A B
  clear I
  go_enter Tryd.func4, Tryd.ntmps4
  go_wp2_with fail
  refine (S.out _ ((Kept.refl w).alloc _)).mono ?_
  rintro e u1 ⟨rfl, k1⟩
  have P1 := hid (show Blk u1 w.heap.size 24 [.int .u16 dv, .int .u8 ta, .int .u8 tm, .int .u8 tc, .int .u8 ts] from blk_kept k1 (blk_new w _ _))
  have K1 := hid (((Kept.refl w).alloc (.cells ([.int .u16 dv, .int .u8 ta, .int .u8 tm, .int .u8 tc, .int .u8 ts] : List Value).toArray 24)).trans k1)
  have c1 := blk_cell P1.out
  clear k1
  go_wp2_with fail
  refine (A.out _ K1.out).mono ?_
  rintro e u2 ⟨rfl, k2⟩
  have K2 := hid ((K1.out.trans k2).alloc (.cells ([.int .u16 V.div, .int .u8 V.tima, .int .u8 V.tma, .int .u8 V.tac, .int .u8 V.st] : List Value).toArray 24))
  have P2 := hid (blk_past (blk_kept k2 P1.out) (.cells ([.int .u16 V.div, .int .u8 V.tima, .int .u8 V.tma, .int .u8 V.tac, .int .u8 V.st] : List Value).toArray 24))
  have V2 := hid (blk_new u2 [.int .u16 V.div, .int .u8 V.tima, .int .u8 V.tma, .int .u8 V.tac, .int .u8 V.st] 24)
  have c2 := blk_cell P2.out
  have c2b := blk_cell (blk_kept k2 P1.out)
  have z2 : w.heap.size ≠ u2.heap.size := by have := blk_lt (blk_kept k2 P1.out); omega
  clear k2 P1 K1 c1
  go_wp2_with fail
  refine (B.out _).mono ?_
  rintro e u3 ⟨rfl, k3⟩
  have K3 := hid ((K2.out.trans k3).alloc (.cells ([.int .u16 V.div, .int .u8 V.tima, .int .u8 V.tma, .int .u8 V.tac, .int .u8 V.st] : List Value).toArray 24))
  have c3 := blk_cell (blk_kept k3 V2.out)
  have z3 : u2.heap.size ≠ u3.heap.size := by have := blk_lt (blk_kept k3 V2.out); omega
  have c4 := blk_cell (blk_past (blk_kept k3 V2.out) (.cells ([.int .u16 V.div, .int .u8 V.tima, .int .u8 V.tma, .int .u8 V.tac, .int .u8 V.st] : List Value).toArray 24))
  have c5 := blk_cell (blk_new u3 [.int .u16 V.div, .int .u8 V.tima, .int .u8 V.tma, .int .u8 V.tac, .int .u8 V.st] 24)
  clear k3 P2 K2 c2 c2b
  go_wp2
  go_ret
  exact ⟨rfl, K3.out⟩
end Go.Proofs.YthjpngfbabeboaaDoor
