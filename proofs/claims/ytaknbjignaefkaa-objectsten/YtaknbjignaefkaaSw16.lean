/- The examples at the head of layer 16's laws. -/
import Derived.Test.YtaknbjignaefkaaSc16b
import Derived.Test.YtaknbjignaefkaaEx16
namespace Go.Proofs.Ytaknbjignaefkaa
open Go.RowKit
set_option linter.unusedVariables false
set_option linter.unusedSimpArgs false

theorem two_sl (w : World) : Sl (w.alloc (.cells #[.int .u8 16, .int .u8 8] 5)) (some ⟨w.heap.size, 0, none⟩) 2 [16, 8] := by
  refine ⟨⟨by simp [maxLen], fun z hz => ?_, .inr ⟨_, rfl, by simp, fun i hi => ?_⟩⟩, by simp, by simp [maxLen], fun e => by cases e⟩
  · simp at hz; rcases hz with rfl | rfl <;> exact ⟨by decide, by decide⟩
  · rw [ownB_add, cell_of_row _ w.heap.size i #[.int .u8 16, .int .u8 8] 5 (0, 0) (heap_alloc_new w _)]
    match i, hi with
    | 0, _ => rfl
    | 1, _ => rfl
abbrev ob1 : Ob := (⟨16, by decide⟩, ⟨0, by decide⟩, ⟨5, by decide⟩, ⟨0, by decide⟩, ⟨0, by decide⟩)
abbrev ob2 : Ob := (⟨0, by decide⟩, ⟨8, by decide⟩, ⟨0, by decide⟩, ⟨32, by decide⟩, ⟨0, by decide⟩)
theorem ob1_v : obV ob1 = .agg #[.int .u8 16, .int .u8 0, .int .u8 5, .int .u8 0, .int .u8 0] := rfl
theorem ob2_v : obV ob2 = .agg #[.int .u8 0, .int .u8 8, .int .u8 0, .int .u8 32, .int .u8 0] := rfl
theorem sh_tile : tileR ob1 9 true = 5 ∧ rowR ob1 9 true = 1 ∧ onP ob1 9 true = true := by decide +kernel
theorem sh_col : colI ob2 3 = 4 ∧ colOn ob2 3 = true := by decide +kernel
theorem sh_len : (scanL [16, 8] 0 false).length = 1 := by decide +kernel
theorem sh_sum : sumI (scanL [16, 8] 0 false) 0 1 = 11 := by decide +kernel
theorem sh_a (u : World) : Calls Try.prog 15 #[.agg #[.int .u8 16, .int .u8 0, .int .u8 5, .int .u8 0, .int .u8 0], .int .i64 9, .bool true] u fun e w' => e = .returned (.tuple #[.int .u8 5, .int .i64 1, .bool true]) ∧ Kept u w' := by
  have q := prow16 ob1 9 true u
  rw [sh_tile.1, sh_tile.2.1, sh_tile.2.2, ob1_v] at q
  exact q
theorem sh_b (u : World) : Calls Try.prog 17 #[.agg #[.int .u8 0, .int .u8 8, .int .u8 0, .int .u8 32, .int .u8 0], .int .i64 3] u fun e w' => e = .returned (.tuple #[.int .i64 4, .bool true]) ∧ Kept u w' := by
  have q := pcol16 ob2 3 u
  rw [sh_col.1, sh_col.2, ob2_v] at q
  exact q
theorem sh_c (u : World) : Calls Try.prog 11 #[.slice (some ⟨u.heap.size, 0, none⟩) 2 2, .int .i64 0, .bool false] (u.alloc (.cells #[.int .u8 16, .int .u8 8] 5)) fun e w' => (∃ a2 cap2, e = .returned (.slice a2 1 cap2) ∧ SlO w' a2 cap2 (scanL [16, 8] 0 false)) ∧ Kept (u.alloc (.cells #[.int .u8 16, .int .u8 8] 5)) w' := by
  have q := pscan16 (some ⟨u.heap.size, 0, none⟩) 2 [16, 8] 0 false _ (two_sl u) (by simp)
  rw [sh_len] at q
  exact q
theorem sh_d (u : World) (a2 : Option Addr) (cap2 : Nat) (h : SlO u a2 cap2 (scanL [16, 8] 0 false)) : Calls Try.prog 19 #[.slice a2 1 cap2, .int .u8 0] u fun e w' => e = .returned (.int .i64 11) ∧ Kept u w' := by
  have q := pext16 a2 cap2 (scanL [16, 8] 0 false) 0 u h (by rw [sh_len]; decide) (by decide) (by decide)
  rw [sh_len, sh_sum] at q
  exact q
set_option maxRecDepth 100000 in
set_option maxHeartbeats 4000000 in
theorem kshown16 (w : World) : Calls Try.prog 9 #[] w fun e w' => e = .returned (.bool true) ∧ Kept w w' := by
  have A0 := fun u => sh_a u
  have B0 := fun u => sh_b u
  have C0 := fun u => sh_c u
  have D0 := fun u a2 cap2 h => sh_d u a2 cap2 h
  generalize scanL [16, 8] 0 false = L at *
  have A := hid A0
  have B := hid B0
  have C := hid C0
  have D := hid D0
  clear A0 B0 C0 D0
  go_enter Try.func9, Try.ntmps9
  go_wp2_with fail
  refine (A.out _).mono ?_
  rintro e u1 ⟨rfl, k1⟩
  have K1 := hid k1
  clear k1
  go_wp2_with fail
  refine (B.out _).mono ?_
  rintro e u2 ⟨rfl, k2⟩
  have K2 := hid (K1.out.trans k2)
  clear k2 K1
  go_wp2_with fail
  refine (C.out _).mono ?_
  rintro e u3 ⟨⟨a2, cap2, rfl, s3⟩, k3⟩
  have K3 := hid ((K2.out.alloc _).trans k3)
  have S3 := hid s3
  clear k3 K2 s3
  go_wp2_with fail
  refine (D.out _ _ _ S3.out).mono ?_
  rintro e u4 ⟨rfl, k4⟩
  have K4 := hid (K3.out.trans k4)
  clear k4 K3
  go_wp2
  go_ret
  exact ⟨rfl, K4.out⟩
end Go.Proofs.Ytaknbjignaefkaa
