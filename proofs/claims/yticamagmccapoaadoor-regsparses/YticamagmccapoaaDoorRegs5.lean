/- Text of layer 4. -/
import Derived.Test.YticamagmccapoaaDoorRows
import Derived.Test.YticamagmccapoaaDoorBits
import Derived.Test.YticamagmccapoaaDoorGrow
import Derived.Test.YticamagmccapoaaDoorGrow2
import Derived.Test.YticamagmccapoaaDoorRg
import Derived.Deep.QuietTactic
import Derived.BigQuiet
import Derived.Deep.RegionHeld3
import Derived.Deep.DeepCutAuto
import Derived.Test.YticamagmccapoaaDoorRegs3
namespace Go.Proofs.YticamagmccapoaaDoor
open Go.RowKit
set_option linter.unusedVariables false
set_option linter.unusedSimpArgs false

def nameAt : Nat → ByteArray
  | 0 => ⟨#[65, 70]⟩
  | 1 => ⟨#[66, 67]⟩
  | 2 => ⟨#[68, 69]⟩
  | 3 => ⟨#[72, 76]⟩
  | _ => ⟨#[83, 80]⟩
def pairAt : Nat → Int
  | 0 => 4
  | 1 => 0
  | 2 => 1
  | 3 => 2
  | _ => 3
def pieceAt (r : Rg) (k : Nat) : ByteArray := ((nameAt k ++ ⟨#[61]⟩) ++ hex16Of (pairOf (pairAt k) r)) ++ ⟨#[32]⟩
def textTo (r : Rg) : Nat → ByteArray
  | 0 => ⟨#[]⟩
  | k + 1 => textTo r k ++ pieceAt r k
def textOf (r : Rg) : ByteArray := (textTo r 5 ++ ⟨#[80, 67, 61]⟩) ++ hex16Of r.p
set_option maxHeartbeats 8000000 in
theorem text_any (r : Rg) (w : World) (ok : r.ok) (lay : Has w 0 #[.string ⟨#[65, 70]⟩, .int .i64 4, .string ⟨#[66, 67]⟩, .int .i64 0, .string ⟨#[68, 69]⟩, .int .i64 1, .string ⟨#[72, 76]⟩, .int .i64 2, .string ⟨#[83, 80]⟩, .int .i64 3]) :
    Calls Tryd.prog 12 #[.agg #[.int .u8 r.a, .int .u8 r.f, .int .u8 r.b, .int .u8 r.c, .int .u8 r.d, .int .u8 r.e, .int .u8 r.h, .int .u8 r.l, .int .u16 r.s, .int .u16 r.p]] w fun e w' => e = .returned (.string (textOf r)) ∧ Grown w w' := by
  obtain ⟨zl, cl⟩ := id lay
  have l0 : w.cell? ⟨0, 0, none⟩ = some (.string ⟨#[65, 70]⟩) := cl 0
  have l1 : w.cell? ⟨0, 1, none⟩ = some (.int .i64 4) := cl 1
  have l2 : w.cell? ⟨0, 2, none⟩ = some (.string ⟨#[66, 67]⟩) := cl 2
  have l3 : w.cell? ⟨0, 3, none⟩ = some (.int .i64 0) := cl 3
  have l4 : w.cell? ⟨0, 4, none⟩ = some (.string ⟨#[68, 69]⟩) := cl 4
  have l5 : w.cell? ⟨0, 5, none⟩ = some (.int .i64 1) := cl 5
  have l6 : w.cell? ⟨0, 6, none⟩ = some (.string ⟨#[72, 76]⟩) := cl 6
  have l7 : w.cell? ⟨0, 7, none⟩ = some (.int .i64 2) := cl 7
  have l8 : w.cell? ⟨0, 8, none⟩ = some (.string ⟨#[83, 80]⟩) := cl 8
  have l9 : w.cell? ⟨0, 9, none⟩ = some (.int .i64 3) := cl 9
  clear cl
  go_enter Tryd.func12, Tryd.ntmps12
  go_wp2
  go_loopw [3, 9] (fun s i wr => ∃ k : Nat, k ≤ 5 ∧ i = .int .i64 k ∧ s = .string (textTo r k) ∧ Has wr w.heap.size #[.int .u8 r.a, .int .u8 r.f, .int .u8 r.b, .int .u8 r.c, .int .u8 r.d, .int .u8 r.e, .int .u8 r.h, .int .u8 r.l, .int .u16 r.s, .int .u16 r.p] ∧ Grown w wr) (fun _ i _ => 5 - (intOf i).toNat)
  case atStart => exact ⟨0, Nat.zero_le _, rfl, rfl, has_alloc _ _ _, alloc1 _ _ _⟩
  case round =>
    obtain ⟨k, hk, rfl, rfl, Br, Gw⟩ := hrel
    obtain ⟨zr, cr⟩ := id Br
    by_cases hlt : k < 5
    · rcases (show k = 0 ∨ k = 1 ∨ k = 2 ∨ k = 3 ∨ k = 4 by omega) with rfl | rfl | rfl | rfl | rfl
      · skip
        have ix : ∀ u, (Instr.index 46 (.agg #[.string ⟨#[65, 70]⟩, .int .i64 4, .string ⟨#[66, 67]⟩, .int .i64 0, .string ⟨#[68, 69]⟩, .int .i64 1, .string ⟨#[72, 76]⟩, .int .i64 2, .string ⟨#[83, 80]⟩, .int .i64 3]) (.int .i64 0)).run Tryd.prog u = .ok (.agg #[.string ⟨#[65, 70]⟩, .int .i64 4]) u := fun _ => by kernel_rfl
        have E := hid (show textTo r 1 = textTo r 0 ++ (((ByteArray.mk #[65, 70] ++ ⟨#[61]⟩) ++ hex16Of (pairOf 4 r)) ++ ⟨#[32]⟩) from rfl)
        obtain ⟨p0, p1⟩ := pair_bd ok 4
        have hz : (hex16Of (pairOf 4 r)).size = 4 := rfl
        have tz : (textTo r 0).size = 0 := rfl
        go_wp2_with fail
        refine (pair_any r _ _ ok).mono ?_
        rintro e u1 ⟨rfl, g1⟩
        have Br1 := has_grown g1 (has_past Br _)
        have Bp1 := has_grown g1 (has_alloc _ _ _)
        obtain ⟨zr1, cr1⟩ := id Br1
        obtain ⟨zp1, cp1⟩ := id Bp1
        have G1 := hid (grown_trans (Gw.alloc _ _) g1)
        go_wp2
        go_region_held3 (fun w' => wr.heap.size < w'.heap.size ∧ w'.cell? ⟨wr.heap.size, 0, none⟩ = some (.string ⟨#[65, 70]⟩)) (go_keep) (first | (go_at_call 28; refine (hex16_any _ _ p0 p1).mono ?_; rintro e v1 ⟨rfl, q1⟩; have D1b0 := has_grown q1 Bp1; obtain ⟨zD1b0, cD1b0⟩ := id D1b0))
        go_wp2
        go_roundw
        case rel => exact ⟨1, by omega, by go_num, by rw [E.out], has_grown q1 Br1, grown_trans G1.out q1⟩
        case measure => simp [intOf]
      · skip
        have ix : ∀ u, (Instr.index 46 (.agg #[.string ⟨#[65, 70]⟩, .int .i64 4, .string ⟨#[66, 67]⟩, .int .i64 0, .string ⟨#[68, 69]⟩, .int .i64 1, .string ⟨#[72, 76]⟩, .int .i64 2, .string ⟨#[83, 80]⟩, .int .i64 3]) (.int .i64 1)).run Tryd.prog u = .ok (.agg #[.string ⟨#[66, 67]⟩, .int .i64 0]) u := fun _ => by kernel_rfl
        have E := hid (show textTo r 2 = textTo r 1 ++ (((ByteArray.mk #[66, 67] ++ ⟨#[61]⟩) ++ hex16Of (pairOf 0 r)) ++ ⟨#[32]⟩) from rfl)
        obtain ⟨p0, p1⟩ := pair_bd ok 0
        have hz : (hex16Of (pairOf 0 r)).size = 4 := rfl
        have tz : (textTo r 1).size = 8 := rfl
        go_wp2_with fail
        refine (pair_any r _ _ ok).mono ?_
        rintro e u1 ⟨rfl, g1⟩
        have Br1 := has_grown g1 (has_past Br _)
        have Bp1 := has_grown g1 (has_alloc _ _ _)
        obtain ⟨zr1, cr1⟩ := id Br1
        obtain ⟨zp1, cp1⟩ := id Bp1
        have G1 := hid (grown_trans (Gw.alloc _ _) g1)
        go_wp2
        go_region_held3 (fun w' => wr.heap.size < w'.heap.size ∧ w'.cell? ⟨wr.heap.size, 0, none⟩ = some (.string ⟨#[66, 67]⟩)) (go_keep) (first | (go_at_call 28; refine (hex16_any _ _ p0 p1).mono ?_; rintro e v1 ⟨rfl, q1⟩; have D1b0 := has_grown q1 Bp1; obtain ⟨zD1b0, cD1b0⟩ := id D1b0))
        go_wp2
        go_roundw
        case rel => exact ⟨2, by omega, by go_num, by rw [E.out], has_grown q1 Br1, grown_trans G1.out q1⟩
        case measure => simp [intOf]
      · skip
        have ix : ∀ u, (Instr.index 46 (.agg #[.string ⟨#[65, 70]⟩, .int .i64 4, .string ⟨#[66, 67]⟩, .int .i64 0, .string ⟨#[68, 69]⟩, .int .i64 1, .string ⟨#[72, 76]⟩, .int .i64 2, .string ⟨#[83, 80]⟩, .int .i64 3]) (.int .i64 2)).run Tryd.prog u = .ok (.agg #[.string ⟨#[68, 69]⟩, .int .i64 1]) u := fun _ => by kernel_rfl
        have E := hid (show textTo r 3 = textTo r 2 ++ (((ByteArray.mk #[68, 69] ++ ⟨#[61]⟩) ++ hex16Of (pairOf 1 r)) ++ ⟨#[32]⟩) from rfl)
        obtain ⟨p0, p1⟩ := pair_bd ok 1
        have hz : (hex16Of (pairOf 1 r)).size = 4 := rfl
        have tz : (textTo r 2).size = 16 := rfl
        go_wp2_with fail
        refine (pair_any r _ _ ok).mono ?_
        rintro e u1 ⟨rfl, g1⟩
        have Br1 := has_grown g1 (has_past Br _)
        have Bp1 := has_grown g1 (has_alloc _ _ _)
        obtain ⟨zr1, cr1⟩ := id Br1
        obtain ⟨zp1, cp1⟩ := id Bp1
        have G1 := hid (grown_trans (Gw.alloc _ _) g1)
        go_wp2
        go_region_held3 (fun w' => wr.heap.size < w'.heap.size ∧ w'.cell? ⟨wr.heap.size, 0, none⟩ = some (.string ⟨#[68, 69]⟩)) (go_keep) (first | (go_at_call 28; refine (hex16_any _ _ p0 p1).mono ?_; rintro e v1 ⟨rfl, q1⟩; have D1b0 := has_grown q1 Bp1; obtain ⟨zD1b0, cD1b0⟩ := id D1b0))
        go_wp2
        go_roundw
        case rel => exact ⟨3, by omega, by go_num, by rw [E.out], has_grown q1 Br1, grown_trans G1.out q1⟩
        case measure => simp [intOf]
      · skip
        have ix : ∀ u, (Instr.index 46 (.agg #[.string ⟨#[65, 70]⟩, .int .i64 4, .string ⟨#[66, 67]⟩, .int .i64 0, .string ⟨#[68, 69]⟩, .int .i64 1, .string ⟨#[72, 76]⟩, .int .i64 2, .string ⟨#[83, 80]⟩, .int .i64 3]) (.int .i64 3)).run Tryd.prog u = .ok (.agg #[.string ⟨#[72, 76]⟩, .int .i64 2]) u := fun _ => by kernel_rfl
        have E := hid (show textTo r 4 = textTo r 3 ++ (((ByteArray.mk #[72, 76] ++ ⟨#[61]⟩) ++ hex16Of (pairOf 2 r)) ++ ⟨#[32]⟩) from rfl)
        obtain ⟨p0, p1⟩ := pair_bd ok 2
        have hz : (hex16Of (pairOf 2 r)).size = 4 := rfl
        have tz : (textTo r 3).size = 24 := rfl
        go_wp2_with fail
        refine (pair_any r _ _ ok).mono ?_
        rintro e u1 ⟨rfl, g1⟩
        have Br1 := has_grown g1 (has_past Br _)
        have Bp1 := has_grown g1 (has_alloc _ _ _)
        obtain ⟨zr1, cr1⟩ := id Br1
        obtain ⟨zp1, cp1⟩ := id Bp1
        have G1 := hid (grown_trans (Gw.alloc _ _) g1)
        go_wp2
        go_region_held3 (fun w' => wr.heap.size < w'.heap.size ∧ w'.cell? ⟨wr.heap.size, 0, none⟩ = some (.string ⟨#[72, 76]⟩)) (go_keep) (first | (go_at_call 28; refine (hex16_any _ _ p0 p1).mono ?_; rintro e v1 ⟨rfl, q1⟩; have D1b0 := has_grown q1 Bp1; obtain ⟨zD1b0, cD1b0⟩ := id D1b0))
        go_wp2
        go_roundw
        case rel => exact ⟨4, by omega, by go_num, by rw [E.out], has_grown q1 Br1, grown_trans G1.out q1⟩
        case measure => simp [intOf]
      · skip
        have ix : ∀ u, (Instr.index 46 (.agg #[.string ⟨#[65, 70]⟩, .int .i64 4, .string ⟨#[66, 67]⟩, .int .i64 0, .string ⟨#[68, 69]⟩, .int .i64 1, .string ⟨#[72, 76]⟩, .int .i64 2, .string ⟨#[83, 80]⟩, .int .i64 3]) (.int .i64 4)).run Tryd.prog u = .ok (.agg #[.string ⟨#[83, 80]⟩, .int .i64 3]) u := fun _ => by kernel_rfl
        have E := hid (show textTo r 5 = textTo r 4 ++ (((ByteArray.mk #[83, 80] ++ ⟨#[61]⟩) ++ hex16Of (pairOf 3 r)) ++ ⟨#[32]⟩) from rfl)
        obtain ⟨p0, p1⟩ := pair_bd ok 3
        have hz : (hex16Of (pairOf 3 r)).size = 4 := rfl
        have tz : (textTo r 4).size = 32 := rfl
        go_wp2_with fail
        refine (pair_any r _ _ ok).mono ?_
        rintro e u1 ⟨rfl, g1⟩
        have Br1 := has_grown g1 (has_past Br _)
        have Bp1 := has_grown g1 (has_alloc _ _ _)
        obtain ⟨zr1, cr1⟩ := id Br1
        obtain ⟨zp1, cp1⟩ := id Bp1
        have G1 := hid (grown_trans (Gw.alloc _ _) g1)
        go_wp2
        go_region_held3 (fun w' => wr.heap.size < w'.heap.size ∧ w'.cell? ⟨wr.heap.size, 0, none⟩ = some (.string ⟨#[83, 80]⟩)) (go_keep) (first | (go_at_call 28; refine (hex16_any _ _ p0 p1).mono ?_; rintro e v1 ⟨rfl, q1⟩; have D1b0 := has_grown q1 Bp1; obtain ⟨zD1b0, cD1b0⟩ := id D1b0))
        go_wp2
        go_roundw
        case rel => exact ⟨5, by omega, by go_num, by rw [E.out], has_grown q1 Br1, grown_trans G1.out q1⟩
        case measure => simp [intOf]
    · obtain rfl : k = 5 := by omega
      have hz : (hex16Of r.p).size = 4 := rfl
      have tz : (textTo r 5).size = 40 := rfl
      obtain ⟨p0, p1⟩ := ok.2.2.2.2.2.2.2.2.2
      go_wp2_with fail
      refine (hex16_any _ _ p0 p1).mono ?_
      rintro e u1 ⟨rfl, g1⟩
      go_wp2
      go_ret
      exact ⟨rfl, grown_trans Gw g1⟩
end Go.Proofs.YticamagmccapoaaDoor
