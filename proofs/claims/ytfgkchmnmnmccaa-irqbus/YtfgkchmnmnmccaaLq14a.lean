/- Layer 14: IrqPendings, Vectors, Asks, Bus, as walks. -/
import Derived.Test.YtfgkchmnmnmccaaSw14
import Derived.Test.YtfgkchmnmnmccaaRi14
namespace Go.Proofs.Ytfgkchmnmnmccaa
open Go.RowKit
set_option linter.unusedVariables false
set_option linter.unusedSimpArgs false

set_option maxRecDepth 100000 in
set_option maxHeartbeats 4000000 in
theorem pendings14 (i : Iq) (p : Int) (w : World) (I : IqIn i) (p0 : 0 ≤ p) (p1 : p ≤ 255) : Calls Try.prog 3 #[iqV i, .int .u8 p] w fun e w' => e = .returned (.bool true) ∧ Kept w w' := by
  have S := hid kshown14
  have F := hid (fun u => pfirst14 p u p0 p1)
  have G := hid (fun u => rfirst14 p u p0 p1)
  have A := hid (fun u => ppend14 i u I)
  have B := hid (fun u => rpend14 i u I)
  obtain ⟨jf, je⟩ := i
  try simp only at *
  generalize pendP jf je = V at *
  generalize firstP p = fp at *
  generalize isP p = ip at *
  clear I
  go_enter Try.func3, Try.ntmps3
  go_wp2_with fail
  refine (S.out _).mono ?_
  rintro e u1 ⟨rfl, k1⟩
  have P1 := hid (show Blk u1 w.heap.size 23 [.int .u8 jf, .int .u8 je] from blk_kept k1 (blk_new w _ _))
  have K1 := hid (((Kept.refl w).alloc (.cells ([.int .u8 jf, .int .u8 je] : List Value).toArray 23)).trans k1)
  have c1 := blk_cell P1.out
  clear k1
  go_wp2_with fail
  refine (F.out _).mono ?_
  rintro e u2 ⟨rfl, k2⟩
  have P2 := hid (blk_kept k2 P1.out)
  have K2 := hid (K1.out.trans k2)
  clear k2 P1 K1 c1
  go_wp2_with fail
  refine (G.out _).mono ?_
  rintro e u3 ⟨rfl, k3⟩
  have P3 := hid (blk_kept k3 P2.out)
  have K3 := hid (K2.out.trans k3)
  have c3 := blk_cell P3.out
  clear k3 P2 K2
  go_wp2_with fail
  go_region_held3 (fun w' => w'.cell? ⟨w.heap.size, 0, none⟩ = some (.int .u8 jf) ∧ w'.cell? ⟨w.heap.size, 1, none⟩ = some (.int .u8 je)) (go_keep) (first | (go_at_call 12; refine (A.out _).mono ?_; rintro e v4 ⟨rfl, q4⟩; have B4 := hid (blk_kept q4 (blk_drew P3.out)); have c4 := blk_cell B4.out; have Z4 := hid (K3.out.drew.trans q4); clear q4) | (go_at_call 13; refine (B.out _).mono ?_; rintro e v5 ⟨rfl, q5⟩; have B5 := hid (blk_kept q5 B4.out); have c5 := blk_cell B5.out; have Z5 := hid (Z4.out.trans q5); clear q5))
  all_goals
    go_wp2
    go_ret
    exact ⟨rfl, Z5.out⟩
set_option maxRecDepth 100000 in
set_option maxHeartbeats 4000000 in
theorem vectors14 (n : Int) (w : World) : Calls Try.prog 5 #[.int .i64 n] w fun e w' => e = .returned (.bool true) ∧ Kept w w' := by
  have S := hid kshown14
  have A := hid (fun u => pvec14 n u)
  have B := hid (fun u => rvec14 n u)
  generalize vecV n = V at *
  generalize vecE n = E at *
  go_enter Try.func5, Try.ntmps5
  go_wp2_with fail
  refine (S.out _).mono ?_
  rintro e u1 ⟨rfl, k1⟩
  have K1 := hid k1
  clear k1
  go_wp2_with fail
  refine (A.out _).mono ?_
  rintro e u2 ⟨rfl, rfl⟩
  go_wp2_with fail
  refine (B.out _).mono ?_
  rintro e u3 ⟨rfl, rfl⟩
  go_wp2
  go_ret
  exact ⟨rfl, K1.out⟩
set_option maxRecDepth 100000 in
set_option maxHeartbeats 4000000 in
theorem asks14 (i : Iq) (n : Int) (w : World) (I : IqIn i) : Calls Try.prog 6 #[iqV i, .int .i64 n] w fun e w' => e = .returned (.bool true) ∧ Kept w w' := by
  have S := hid kshown14
  have A := hid (fun u => pask14 i n u I)
  have B := hid (fun u => rask14 i n u I)
  have C := hid (fun u => ptake14 i n u I)
  have D := hid (fun u => rtake14 i n u I)
  generalize askI i n = V at *
  generalize takeI i n = X at *
  obtain ⟨jf, je⟩ := i
  try simp only at *
  clear I
  go_enter Try.func6, Try.ntmps6
  go_wp2_with fail
  refine (S.out _).mono ?_
  rintro e u1 ⟨rfl, k1⟩
  have P1 := hid (show Blk u1 w.heap.size 23 [.int .u8 jf, .int .u8 je] from blk_kept k1 (blk_new w _ _))
  have K1 := hid (((Kept.refl w).alloc (.cells ([.int .u8 jf, .int .u8 je] : List Value).toArray 23)).trans k1)
  have c1 := blk_cell P1.out
  clear k1
  go_wp2_with fail
  go_region_held3 (fun w' => w'.cell? ⟨w.heap.size, 0, none⟩ = some (.int .u8 jf) ∧ w'.cell? ⟨w.heap.size, 1, none⟩ = some (.int .u8 je)) (go_keep) (first | (go_at_call 18; refine (A.out _).mono ?_; rintro e v2 ⟨rfl, q2⟩; have B2 := hid (blk_kept q2 (blk_drew P1.out)); have c2 := blk_cell B2.out; have Z2 := hid (K1.out.drew.trans q2); clear q2) | (go_at_call 19; refine (B.out _).mono ?_; rintro e v3 ⟨rfl, q3⟩; have B3 := hid (blk_kept q3 B2.out); have c3 := blk_cell B3.out; have Z3 := hid (Z2.out.trans q3); clear q3) | (go_at_call 20; refine (C.out _).mono ?_; rintro e v4 ⟨rfl, q4⟩; have B4 := hid (blk_kept q4 B3.out); have c4 := blk_cell B4.out; have Z4 := hid (Z3.out.trans q4); clear q4) | (go_at_call 21; refine (D.out _).mono ?_; rintro e v5 ⟨rfl, q5⟩; have B5 := hid (blk_kept q5 B4.out); have c5 := blk_cell B5.out; have Z5 := hid (Z4.out.trans q5); clear q5))
  all_goals
    go_wp2
    go_ret
    exact ⟨rfl, Z5.out⟩
set_option maxRecDepth 100000 in
set_option maxHeartbeats 4000000 in
theorem bus14 (i : Iq) (a v : Int) (w : World) (I : IqIn i) (v0 : 0 ≤ v) (v1 : v ≤ 255) : Calls Try.prog 7 #[iqV i, .int .u16 a, .int .u8 v] w fun e w' => e = .returned (.bool true) ∧ Kept w w' := by
  have S := hid kshown14
  have A := hid (fun u => pread14 i a u I)
  have B := hid (fun u => rread14 i a u I)
  have C := hid (fun u => pwrite14 i a v u I v0 v1)
  have D := hid (fun u => rwrite14 i a v u I v0 v1)
  generalize readI i a = V at *
  generalize writeI i a v = X at *
  obtain ⟨jf, je⟩ := i
  try simp only at *
  clear I
  go_enter Try.func7, Try.ntmps7
  go_wp2_with fail
  refine (S.out _).mono ?_
  rintro e u1 ⟨rfl, k1⟩
  have P1 := hid (show Blk u1 w.heap.size 23 [.int .u8 jf, .int .u8 je] from blk_kept k1 (blk_new w _ _))
  have K1 := hid (((Kept.refl w).alloc (.cells ([.int .u8 jf, .int .u8 je] : List Value).toArray 23)).trans k1)
  have c1 := blk_cell P1.out
  clear k1
  go_wp2_with fail
  go_region_held3 (fun w' => w'.cell? ⟨w.heap.size, 0, none⟩ = some (.int .u8 jf) ∧ w'.cell? ⟨w.heap.size, 1, none⟩ = some (.int .u8 je)) (go_keep) (first | (go_at_call 22; refine (A.out _).mono ?_; rintro e v2 ⟨rfl, q2⟩; have B2 := hid (blk_kept q2 (blk_drew P1.out)); have c2 := blk_cell B2.out; have Z2 := hid (K1.out.drew.trans q2); clear q2) | (go_at_call 23; refine (B.out _).mono ?_; rintro e v3 ⟨rfl, q3⟩; have B3 := hid (blk_kept q3 B2.out); have c3 := blk_cell B3.out; have Z3 := hid (Z2.out.trans q3); clear q3) | (go_at_call 24; refine (C.out _).mono ?_; rintro e v4 ⟨rfl, q4⟩; have B4 := hid (blk_kept q4 B3.out); have c4 := blk_cell B4.out; have Z4 := hid (Z3.out.trans q4); clear q4) | (go_at_call 25; refine (D.out _).mono ?_; rintro e v5 ⟨rfl, q5⟩; have B5 := hid (blk_kept q5 B4.out); have c5 := blk_cell B5.out; have Z5 := hid (Z4.out.trans q5); clear q5))
  all_goals
    go_wp2
    go_ret
    exact ⟨rfl, Z5.out⟩
end Go.Proofs.Ytfgkchmnmnmccaa
