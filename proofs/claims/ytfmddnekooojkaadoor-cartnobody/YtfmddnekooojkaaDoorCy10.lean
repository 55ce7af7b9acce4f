/- CartNobody, as a walk. -/
import Derived.Test.YtfmddnekooojkaaDoorG40
namespace Go.Proofs.YtfmddnekooojkaaDoor
open Go.RowKit
set_option linter.unusedVariables false
set_option linter.unusedSimpArgs false

set_option maxRecDepth 100000 in
set_option maxHeartbeats 8000000 in
theorem nobody_any (a0 a1 : Int) (a2 : Option Addr) (cap2 : Nat) (z2 : List Int) (w : World) (lay : Lay7 w) :
    Calls Tryd.prog 7 #[.int .u16 a0, .int .u8 a1, .slice a2 z2.length cap2] w fun e w' => e = .returned (.bool true) ∧ Kept w w' := by
  have S := hid (kshown_any w lay)
  have ST0 : ∀ v u, NoCart u v → Calls Tryd.prog 17 #[v] u fun e w' => e = .returned (.tuple #[.agg #[.int .i64 0, .bool false, .int .u8 0, .int .u8 0, .int .u8 0, .bool false], .agg #[.int .u8 0, .int .u8 0, .int .u8 0, .int .u16 0, .bool false, .bool false], .agg #[.int .u8 0, .int .u8 0, .int .u8 0, .int .u16 0, .bool false, .bool false]]) ∧ Kept u w' := fun v u h => kstate_no v u h
  have HD0 : ∀ v u, NoCart u v → Calls Tryd.prog 11 #[v] u fun e w' => e = .returned (.agg #[.string ⟨#[]⟩, .int .u8 0, .int .i64 0, .bool false, .bool false, .bool false, .int .i64 0, .int .i64 0, .int .u8 0, .int .u16 0]) ∧ Kept u w' := fun v u h => khead_no v u h
  have ST0 := hid ST0
  have HD0 := hid HD0
  clear lay
  go_enter Tryd.func7, Tryd.ntmps7
  go_wp2_with fail
  refine S.out.mono ?_
  rintro e u0 ⟨rfl, k0⟩
  have ZB : Blk (u0.alloc (.cells ([.int .i64 0, .bool false, .int .u8 0, .int .u8 0, .int .u8 0, .bool false, .int .u8 0, .int .u8 0, .int .u8 0, .int .u16 0, .bool false, .bool false, .int .u8 0, .int .u8 0, .int .u8 0, .int .u16 0, .bool false, .bool false, .int .u8 0, .string ⟨#[]⟩, .int .u8 0, .int .i64 0, .bool false, .bool false, .bool false, .int .i64 0, .int .i64 0, .int .u8 0, .int .u16 0, .slice none 0 0, .slice none 0 0] : List Value).toArray 58)) u0.heap.size 58 (cartL cs0 none 0 none 0) := blk_new u0 _ _
  have ZB := hid ZB
  have K0 := hid (k0.alloc (.cells ([.int .i64 0, .bool false, .int .u8 0, .int .u8 0, .int .u8 0, .bool false, .int .u8 0, .int .u8 0, .int .u8 0, .int .u16 0, .bool false, .bool false, .int .u8 0, .int .u8 0, .int .u8 0, .int .u16 0, .bool false, .bool false, .int .u8 0, .string ⟨#[]⟩, .int .u8 0, .int .i64 0, .bool false, .bool false, .bool false, .int .i64 0, .int .i64 0, .int .u8 0, .int .u16 0, .slice none 0 0, .slice none 0 0] : List Value).toArray 58))
  obtain ⟨W0, hW0⟩ : ∃ v, u0.alloc (.cells ([.int .i64 0, .bool false, .int .u8 0, .int .u8 0, .int .u8 0, .bool false, .int .u8 0, .int .u8 0, .int .u8 0, .int .u16 0, .bool false, .bool false, .int .u8 0, .int .u8 0, .int .u8 0, .int .u16 0, .bool false, .bool false, .int .u8 0, .string ⟨#[]⟩, .int .u8 0, .int .i64 0, .bool false, .bool false, .bool false, .int .i64 0, .int .i64 0, .int .u8 0, .int .u16 0, .slice none 0 0, .slice none 0 0] : List Value).toArray 58) = v := ⟨_, rfl⟩
  rw [hW0] at ZB K0
  clear k0 S
  go_wp2_with fail
  try rw [show u0.alloc (.cells #[.int .i64 0, .bool false, .int .u8 0, .int .u8 0, .int .u8 0, .bool false, .int .u8 0, .int .u8 0, .int .u8 0, .int .u16 0, .bool false, .bool false, .int .u8 0, .int .u8 0, .int .u8 0, .int .u16 0, .bool false, .bool false, .int .u8 0, .string ⟨#[]⟩, .int .u8 0, .int .i64 0, .bool false, .bool false, .bool false, .int .i64 0, .int .i64 0, .int .u8 0, .int .u16 0, .slice none 0 0, .slice none 0 0] 58) = W0 from hW0]
  clear hW0
  go_loopw [10] (fun iv wr => ∃ (j : Nat), j ≤ 2 ∧ iv = .int .i64 (j : Int) ∧ Kept W0 wr) (fun iv _ => 2 - (intOf iv).toNat)
  case atStart => exact ⟨0, by omega, rfl, Kept.refl _⟩
  case round =>
    obtain ⟨j, hj, rfl, kk⟩ := hrel
    have KX := hid kk
    clear kk
    have jj : j = 0 ∨ j = 1 ∨ j = 2 := by omega
    rcases jj with rfl | rfl | rfl
    · have NC := hid (show NoCart wr (.pointer none) from .inl rfl)
      have ST := hid (ST0.out (.pointer none))
      have HD := hid (HD0.out (.pointer none))
      go_wp2_with fail
      refine (kwrite_no (.pointer none) a0 a1 _ NC.out).mono ?_
      rintro e u1 ⟨rfl, hu1⟩
      go_wp2_with fail
      try rw [hu1]
      refine (ktick_no (.pointer none) _ NC.out).mono ?_
      rintro e u2 ⟨rfl, hu2⟩
      go_wp2_with fail
      try rw [hu2]
      refine (ST.out _ NC.out).mono ?_
      rintro e u3 ⟨rfl, k3⟩
      have K3 := hid (KX.out.trans k3)
      have N3 := hid (NC.out.kept k3)
      clear k3 hu1 hu2 NC
      go_wp2_with fail
      refine (kread_no (.pointer none) a0 _ (N3.out.kept (((Kept.refl u3).alloc _).alloc _ |>.alloc _))).mono ?_
      rintro e u4 ⟨rfl, k4⟩
      have A3 := (((Kept.refl u3).alloc (.cells (#[.int .i64 0, .bool false, .int .u8 0, .int .u8 0, .int .u8 0, .bool false] : Array Value) 32)).alloc (.cells (#[.int .u8 0, .int .u8 0, .int .u8 0, .int .u16 0, .bool false, .bool false] : Array Value) 34)).alloc (.cells (#[.int .u8 0, .int .u8 0, .int .u8 0, .int .u16 0, .bool false, .bool false] : Array Value) 34)
      have K4 := hid ((K3.out.trans A3).trans k4)
      have N4 := hid (N3.out.kept (A3.trans k4))
      have m4 := blk_cell (blk_kept k4 (show Blk (((u3.alloc (.cells (#[.int .i64 0, .bool false, .int .u8 0, .int .u8 0, .int .u8 0, .bool false] : Array Value) 32)).alloc (.cells (#[.int .u8 0, .int .u8 0, .int .u8 0, .int .u16 0, .bool false, .bool false] : Array Value) 34)).alloc (.cells (#[.int .u8 0, .int .u8 0, .int .u8 0, .int .u16 0, .bool false, .bool false] : Array Value) 34)) u3.heap.size 32 [.int .i64 0, .bool false, .int .u8 0, .int .u8 0, .int .u8 0, .bool false] from blk_past (blk_past (blk_new u3 _ _) _) _))
      have x4 := blk_cell (blk_kept k4 (show Blk (((u3.alloc (.cells (#[.int .i64 0, .bool false, .int .u8 0, .int .u8 0, .int .u8 0, .bool false] : Array Value) 32)).alloc (.cells (#[.int .u8 0, .int .u8 0, .int .u8 0, .int .u16 0, .bool false, .bool false] : Array Value) 34)).alloc (.cells (#[.int .u8 0, .int .u8 0, .int .u8 0, .int .u16 0, .bool false, .bool false] : Array Value) 34)) (u3.heap.size + 1) 34 [.int .u8 0, .int .u8 0, .int .u8 0, .int .u16 0, .bool false, .bool false] from blk_past (by have q := blk_new (u3.alloc (.cells (#[.int .i64 0, .bool false, .int .u8 0, .int .u8 0, .int .u8 0, .bool false] : Array Value) 32)) [.int .u8 0, .int .u8 0, .int .u8 0, .int .u16 0, .bool false, .bool false] 34; rw [World.size_alloc] at q; exact q) _))
      have y4 := blk_cell (blk_kept k4 (show Blk (((u3.alloc (.cells (#[.int .i64 0, .bool false, .int .u8 0, .int .u8 0, .int .u8 0, .bool false] : Array Value) 32)).alloc (.cells (#[.int .u8 0, .int .u8 0, .int .u8 0, .int .u16 0, .bool false, .bool false] : Array Value) 34)).alloc (.cells (#[.int .u8 0, .int .u8 0, .int .u8 0, .int .u16 0, .bool false, .bool false] : Array Value) 34)) (u3.heap.size + 1 + 1) 34 [.int .u8 0, .int .u8 0, .int .u8 0, .int .u16 0, .bool false, .bool false] from by have q := blk_new ((u3.alloc (.cells (#[.int .i64 0, .bool false, .int .u8 0, .int .u8 0, .int .u8 0, .bool false] : Array Value) 32)).alloc (.cells (#[.int .u8 0, .int .u8 0, .int .u8 0, .int .u16 0, .bool false, .bool false] : Array Value) 34)) [.int .u8 0, .int .u8 0, .int .u8 0, .int .u16 0, .bool false, .bool false] 34; rw [World.size_alloc, World.size_alloc] at q; exact q))
      have z4 : u3.heap.size + 1 + 1 < u4.heap.size := by have q := k4.size; simp at q; omega
      have MB := hid m4
      have XB := hid x4
      have YB := hid y4
      clear k4 A3 N3
      go_wp2_with fail
      refine (HD.out _ N4.out).mono ?_
      rintro e u5 ⟨rfl, k5⟩
      have K5 := hid (K4.out.trans k5)
      have N5 := hid (N4.out.kept k5)
      have m5 : ∀ j, u5.cell? ⟨u3.heap.size, j, none⟩ = ([.int .i64 0, .bool false, .int .u8 0, .int .u8 0, .int .u8 0, .bool false] : List Value)[j]? := fun j => (k5.cell (x := ⟨u3.heap.size, j, none⟩) (show u3.heap.size < _ by omega)).trans (MB.out j)
      have x5 : ∀ j, u5.cell? ⟨u3.heap.size + 1, j, none⟩ = ([.int .u8 0, .int .u8 0, .int .u8 0, .int .u16 0, .bool false, .bool false] : List Value)[j]? := fun j => (k5.cell (x := ⟨u3.heap.size + 1, j, none⟩) (show u3.heap.size + 1 < _ by omega)).trans (XB.out j)
      have y5 : ∀ j, u5.cell? ⟨u3.heap.size + 1 + 1, j, none⟩ = ([.int .u8 0, .int .u8 0, .int .u8 0, .int .u16 0, .bool false, .bool false] : List Value)[j]? := fun j => (k5.cell (x := ⟨u3.heap.size + 1 + 1, j, none⟩) (show u3.heap.size + 1 + 1 < _ by omega)).trans (YB.out j)
      have z5 : u3.heap.size + 1 + 1 < u5.heap.size := Nat.lt_of_lt_of_le z4 k5.size
      clear k5 m4 x4 y4 N4 K4 z4 MB XB YB
      go_wp2_with fail
      refine (kram_no (.pointer none) _ N5.out).mono ?_
      rintro e u6 ⟨r6, rfl, o6, k6⟩
      obtain ⟨a6, c6, rfl, _, _⟩ := own_sl (L := []) o6 (fun x h => by cases h)
      have K6 := hid (K5.out.trans k6)
      have N6 := hid (N5.out.kept k6)
      clear k6 o6 m5 x5 y5 z5 N5 K5
      go_wp2_with fail
      refine (ksave_no (.pointer none) _ N6.out).mono ?_
      rintro e u7 ⟨r7, rfl, o7, k7⟩
      obtain ⟨a7, c7, rfl, _, _⟩ := own_sl (L := []) o7 (fun x h => by cases h)
      have K7 := hid (K6.out.trans k7)
      have N7 := hid (N6.out.kept k7)
      clear k7 o7 N6 K6
      go_wp2_with fail
      refine (kload_no (.pointer none) z2 a2 cap2 _ N7.out).mono ?_
      rintro e u8 ⟨rfl, hu8⟩
      go_wp2
      go_roundw
      case rel => exact ⟨1, by omega, by go_num, K7.out⟩
      case measure => first | omega | (simp; done) | (simp [intOf]; done) | (simp; omega)
    · have NC := hid (show NoCart wr (.pointer (some ⟨u0.heap.size, 0, none⟩)) from .inr ⟨_, rfl, blk_kept KX.out ZB.out⟩)
      have ST := hid (ST0.out (.pointer (some ⟨u0.heap.size, 0, none⟩)))
      have HD := hid (HD0.out (.pointer (some ⟨u0.heap.size, 0, none⟩)))
      go_wp2_with fail
      refine (kwrite_no (.pointer (some ⟨u0.heap.size, 0, none⟩)) a0 a1 _ NC.out).mono ?_
      rintro e u1 ⟨rfl, hu1⟩
      go_wp2_with fail
      try rw [hu1]
      refine (ktick_no (.pointer (some ⟨u0.heap.size, 0, none⟩)) _ NC.out).mono ?_
      rintro e u2 ⟨rfl, hu2⟩
      go_wp2_with fail
      try rw [hu2]
      refine (ST.out _ NC.out).mono ?_
      rintro e u3 ⟨rfl, k3⟩
      have K3 := hid (KX.out.trans k3)
      have N3 := hid (NC.out.kept k3)
      clear k3 hu1 hu2 NC
      go_wp2_with fail
      refine (kread_no (.pointer (some ⟨u0.heap.size, 0, none⟩)) a0 _ (N3.out.kept (((Kept.refl u3).alloc _).alloc _ |>.alloc _))).mono ?_
      rintro e u4 ⟨rfl, k4⟩
      have A3 := (((Kept.refl u3).alloc (.cells (#[.int .i64 0, .bool false, .int .u8 0, .int .u8 0, .int .u8 0, .bool false] : Array Value) 32)).alloc (.cells (#[.int .u8 0, .int .u8 0, .int .u8 0, .int .u16 0, .bool false, .bool false] : Array Value) 34)).alloc (.cells (#[.int .u8 0, .int .u8 0, .int .u8 0, .int .u16 0, .bool false, .bool false] : Array Value) 34)
      have K4 := hid ((K3.out.trans A3).trans k4)
      have N4 := hid (N3.out.kept (A3.trans k4))
      have m4 := blk_cell (blk_kept k4 (show Blk (((u3.alloc (.cells (#[.int .i64 0, .bool false, .int .u8 0, .int .u8 0, .int .u8 0, .bool false] : Array Value) 32)).alloc (.cells (#[.int .u8 0, .int .u8 0, .int .u8 0, .int .u16 0, .bool false, .bool false] : Array Value) 34)).alloc (.cells (#[.int .u8 0, .int .u8 0, .int .u8 0, .int .u16 0, .bool false, .bool false] : Array Value) 34)) u3.heap.size 32 [.int .i64 0, .bool false, .int .u8 0, .int .u8 0, .int .u8 0, .bool false] from blk_past (blk_past (blk_new u3 _ _) _) _))
      have x4 := blk_cell (blk_kept k4 (show Blk (((u3.alloc (.cells (#[.int .i64 0, .bool false, .int .u8 0, .int .u8 0, .int .u8 0, .bool false] : Array Value) 32)).alloc (.cells (#[.int .u8 0, .int .u8 0, .int .u8 0, .int .u16 0, .bool false, .bool false] : Array Value) 34)).alloc (.cells (#[.int .u8 0, .int .u8 0, .int .u8 0, .int .u16 0, .bool false, .bool false] : Array Value) 34)) (u3.heap.size + 1) 34 [.int .u8 0, .int .u8 0, .int .u8 0, .int .u16 0, .bool false, .bool false] from blk_past (by have q := blk_new (u3.alloc (.cells (#[.int .i64 0, .bool false, .int .u8 0, .int .u8 0, .int .u8 0, .bool false] : Array Value) 32)) [.int .u8 0, .int .u8 0, .int .u8 0, .int .u16 0, .bool false, .bool false] 34; rw [World.size_alloc] at q; exact q) _))
      have y4 := blk_cell (blk_kept k4 (show Blk (((u3.alloc (.cells (#[.int .i64 0, .bool false, .int .u8 0, .int .u8 0, .int .u8 0, .bool false] : Array Value) 32)).alloc (.cells (#[.int .u8 0, .int .u8 0, .int .u8 0, .int .u16 0, .bool false, .bool false] : Array Value) 34)).alloc (.cells (#[.int .u8 0, .int .u8 0, .int .u8 0, .int .u16 0, .bool false, .bool false] : Array Value) 34)) (u3.heap.size + 1 + 1) 34 [.int .u8 0, .int .u8 0, .int .u8 0, .int .u16 0, .bool false, .bool false] from by have q := blk_new ((u3.alloc (.cells (#[.int .i64 0, .bool false, .int .u8 0, .int .u8 0, .int .u8 0, .bool false] : Array Value) 32)).alloc (.cells (#[.int .u8 0, .int .u8 0, .int .u8 0, .int .u16 0, .bool false, .bool false] : Array Value) 34)) [.int .u8 0, .int .u8 0, .int .u8 0, .int .u16 0, .bool false, .bool false] 34; rw [World.size_alloc, World.size_alloc] at q; exact q))
      have z4 : u3.heap.size + 1 + 1 < u4.heap.size := by have q := k4.size; simp at q; omega
      have MB := hid m4
      have XB := hid x4
      have YB := hid y4
      clear k4 A3 N3
      go_wp2_with fail
      refine (HD.out _ N4.out).mono ?_
      rintro e u5 ⟨rfl, k5⟩
      have K5 := hid (K4.out.trans k5)
      have N5 := hid (N4.out.kept k5)
      have m5 : ∀ j, u5.cell? ⟨u3.heap.size, j, none⟩ = ([.int .i64 0, .bool false, .int .u8 0, .int .u8 0, .int .u8 0, .bool false] : List Value)[j]? := fun j => (k5.cell (x := ⟨u3.heap.size, j, none⟩) (show u3.heap.size < _ by omega)).trans (MB.out j)
      have x5 : ∀ j, u5.cell? ⟨u3.heap.size + 1, j, none⟩ = ([.int .u8 0, .int .u8 0, .int .u8 0, .int .u16 0, .bool false, .bool false] : List Value)[j]? := fun j => (k5.cell (x := ⟨u3.heap.size + 1, j, none⟩) (show u3.heap.size + 1 < _ by omega)).trans (XB.out j)
      have y5 : ∀ j, u5.cell? ⟨u3.heap.size + 1 + 1, j, none⟩ = ([.int .u8 0, .int .u8 0, .int .u8 0, .int .u16 0, .bool false, .bool false] : List Value)[j]? := fun j => (k5.cell (x := ⟨u3.heap.size + 1 + 1, j, none⟩) (show u3.heap.size + 1 + 1 < _ by omega)).trans (YB.out j)
      have z5 : u3.heap.size + 1 + 1 < u5.heap.size := Nat.lt_of_lt_of_le z4 k5.size
      clear k5 m4 x4 y4 N4 K4 z4 MB XB YB
      go_wp2_with fail
      refine (kram_no (.pointer (some ⟨u0.heap.size, 0, none⟩)) _ N5.out).mono ?_
      rintro e u6 ⟨r6, rfl, o6, k6⟩
      obtain ⟨a6, c6, rfl, _, _⟩ := own_sl (L := []) o6 (fun x h => by cases h)
      have K6 := hid (K5.out.trans k6)
      have N6 := hid (N5.out.kept k6)
      clear k6 o6 m5 x5 y5 z5 N5 K5
      go_wp2_with fail
      refine (ksave_no (.pointer (some ⟨u0.heap.size, 0, none⟩)) _ N6.out).mono ?_
      rintro e u7 ⟨r7, rfl, o7, k7⟩
      obtain ⟨a7, c7, rfl, _, _⟩ := own_sl (L := []) o7 (fun x h => by cases h)
      have K7 := hid (K6.out.trans k7)
      have N7 := hid (N6.out.kept k7)
      clear k7 o7 N6 K6
      go_wp2_with fail
      refine (kload_no (.pointer (some ⟨u0.heap.size, 0, none⟩)) z2 a2 cap2 _ N7.out).mono ?_
      rintro e u8 ⟨rfl, hu8⟩
      go_wp2
      go_roundw
      case rel => exact ⟨2, by omega, by go_num, K7.out⟩
      case measure => first | omega | (simp; done) | (simp [intOf]; done) | (simp; omega)
    · go_wp2
      go_ret
      exact ⟨rfl, K0.out.trans KX.out⟩
end Go.Proofs.YtfmddnekooojkaaDoor
