/- The laid table of layer 11; the program's bitOf, Hot. -/
import Derived.Test.YthjpngfbabeboabDoorLaidAt
import Derived.Test.YthjpngfbabeboabDoorWord2
import Derived.Test.YthjpngfbabeboabDoorRtm11
import Derived.Test.YthjpngfbabeboabDoorBk
namespace Go.Proofs.YthjpngfbabeboabDoor
open Go.ChangeShapes Go.WideShapes Go.ChangeAt Go.RowKit
set_option linter.unusedVariables false
set_option linter.unusedSimpArgs false

def linesA : Array Value := #[.int .i64 9, .int .i64 3, .int .i64 5, .int .i64 7]
def Lay11 (w : World) : Prop := Has w 0 linesA
theorem lay11_kept {W w : World} (h : Lay11 W) (k : Kept W w) : Lay11 w := hasK k h
theorem of_laid {W : World} (h : laidMetH Tryd.prog Rows.timerLoadsRow.laid W) : Lay11 W := by
  rw [MakeChecks.laidMetH_plain _ _ _ (by kernel_rfl)] at h
  obtain ⟨ps, hL, _, _⟩ := h
  exact laid_at hL 0 _ rfl (t := 39) (k := 4) (l := linesA.toList) (by kernel_rfl) (by kernel_rfl) (by kernel_rfl) (by decide)
theorem start_met (os : Os) (args : Array Value) : laidMetH Tryd.prog Rows.timerLoadsRow.laid ((World.laidAll Tryd.prog os Rows.timerLoadsRow.laid).forCall (fun _ _ => 0) ⟨#[], args, []⟩).memory := by
  rw [MakeChecks.laidMetH_plain _ _ _ (by kernel_rfl)]
  exact laidMet_laidAll _ (by kernel_rfl) (by kernel_rfl)
theorem and3_fin : ∀ a : Fin 256, bits .and .u8 (a.val : Int) 3 = (a.val : Int) % 4 := by decide +kernel
theorem and3_u8 (a : Int) (h0 : 0 ≤ a) (h1 : a ≤ 255) : bits .and .u8 a 3 = a % 4 := fin8 (p := fun a => bits .and .u8 a 3 = a % 4) and3_fin a h0 h1
theorem bit2_fin : ∀ a : Fin 256, bitOf (a.val : Int) 2 = onT (a.val : Int) := by decide +kernel
theorem bit2_u8 (a : Int) (h0 : 0 ≤ a) (h1 : a ≤ 255) : bitOf a 2 = onT a := fin8 (p := fun a => bitOf a 2 = onT a) bit2_fin a h0 h1
theorem pbit11_9 (dv : Int) (w : World) (d0 : 0 ≤ dv) (d1 : dv ≤ 65535) : Calls Tryd.prog 14 #[.int .u16 dv, .int .i64 9] w fun e w' => e = .returned (.bool (dv / 512 % 2 == 1)) ∧ w' = w := by
  have A := hid (fun u => split_any dv u d0 d1)
  have E : bitOf (dv / 256) 1 = (dv / 512 % 2 == 1) := by
    show ((dv / 256) / 2 % 2 == 1) = _
    have q : (dv / 256) / 2 % 2 = dv / 512 % 2 := by omega
    rw [q]
  have B := hid (fun u => bit_any (dv / 256) 1 u (by omega) (by omega))
  rw [E] at B
  clear E
  go_enter Tryd.func14, Tryd.ntmps14
  go_wp2_with fail
  refine (A.out _).mono ?_
  rintro e u ⟨rfl, rfl⟩
  go_wp2_with fail
  refine (B.out _).mono ?_
  rintro e u ⟨rfl, rfl⟩
  go_wp2
  go_ret
  exact ⟨rfl, rfl⟩
theorem pbit11_3 (dv : Int) (w : World) (d0 : 0 ≤ dv) (d1 : dv ≤ 65535) : Calls Tryd.prog 14 #[.int .u16 dv, .int .i64 3] w fun e w' => e = .returned (.bool (dv / 8 % 2 == 1)) ∧ w' = w := by
  have A := hid (fun u => split_any dv u d0 d1)
  have E : bitOf (dv % 256) 3 = (dv / 8 % 2 == 1) := by
    show ((dv % 256) / 8 % 2 == 1) = _
    have q : (dv % 256) / 8 % 2 = dv / 8 % 2 := by omega
    rw [q]
  have B := hid (fun u => bit_any (dv % 256) 3 u (by omega) (by omega))
  rw [E] at B
  clear E
  go_enter Tryd.func14, Tryd.ntmps14
  go_wp2_with fail
  refine (A.out _).mono ?_
  rintro e u ⟨rfl, rfl⟩
  go_wp2_with fail
  refine (B.out _).mono ?_
  rintro e u ⟨rfl, rfl⟩
  go_wp2
  go_ret
  exact ⟨rfl, rfl⟩
theorem pbit11_5 (dv : Int) (w : World) (d0 : 0 ≤ dv) (d1 : dv ≤ 65535) : Calls Tryd.prog 14 #[.int .u16 dv, .int .i64 5] w fun e w' => e = .returned (.bool (dv / 32 % 2 == 1)) ∧ w' = w := by
  have A := hid (fun u => split_any dv u d0 d1)
  have E : bitOf (dv % 256) 5 = (dv / 32 % 2 == 1) := by
    show ((dv % 256) / 32 % 2 == 1) = _
    have q : (dv % 256) / 32 % 2 = dv / 32 % 2 := by omega
    rw [q]
  have B := hid (fun u => bit_any (dv % 256) 5 u (by omega) (by omega))
  rw [E] at B
  clear E
  go_enter Tryd.func14, Tryd.ntmps14
  go_wp2_with fail
  refine (A.out _).mono ?_
  rintro e u ⟨rfl, rfl⟩
  go_wp2_with fail
  refine (B.out _).mono ?_
  rintro e u ⟨rfl, rfl⟩
  go_wp2
  go_ret
  exact ⟨rfl, rfl⟩
theorem pbit11_7 (dv : Int) (w : World) (d0 : 0 ≤ dv) (d1 : dv ≤ 65535) : Calls Tryd.prog 14 #[.int .u16 dv, .int .i64 7] w fun e w' => e = .returned (.bool (dv / 128 % 2 == 1)) ∧ w' = w := by
  have A := hid (fun u => split_any dv u d0 d1)
  have E : bitOf (dv % 256) 7 = (dv / 128 % 2 == 1) := by
    show ((dv % 256) / 128 % 2 == 1) = _
    have q : (dv % 256) / 128 % 2 = dv / 128 % 2 := by omega
    rw [q]
  have B := hid (fun u => bit_any (dv % 256) 7 u (by omega) (by omega))
  rw [E] at B
  clear E
  go_enter Tryd.func14, Tryd.ntmps14
  go_wp2_with fail
  refine (A.out _).mono ?_
  rintro e u ⟨rfl, rfl⟩
  go_wp2_with fail
  refine (B.out _).mono ?_
  rintro e u ⟨rfl, rfl⟩
  go_wp2
  go_ret
  exact ⟨rfl, rfl⟩
set_option maxRecDepth 100000 in
set_option maxHeartbeats 4000000 in
theorem phot11_0 (t : Tm) (w : World) (lay : Lay11 w) (I : TmIn t) (ho : onT t.tac = true) (hk : t.tac % 4 = 0) : Calls Tryd.prog 12 #[tmV t] w fun e w' => e = .returned (.bool (hotT t)) ∧ Kept w w' := by
  have E : hotT t = (t.div / 512 % 2 == 1) := by
    unfold hotT
    rw [ho, Bool.true_and]
    have q : pwT t.tac = 512 := by unfold pwT; rw [if_pos hk]
    rw [q]
  rw [E]
  have A := hid (fun u => bit_any t.tac 2 u I.c0 I.c1)
  rw [bit2_u8 _ I.c0 I.c1, ho] at A
  have B := hid (fun u => pbit11_9 t.div u I.d0 I.d1)
  have m3 := and3_u8 _ I.c0 I.c1
  rw [hk] at m3
  obtain ⟨dv, ta, tm, tc, ts⟩ := t
  simp only at A B m3 ⊢
  have l0 := lay.1
  have c0 : w.cell? ⟨0, 0, none⟩ = some (.int .i64 9) := lay.2 0
  clear E I ho hk lay
  go_enter Tryd.func12, Tryd.ntmps12
  go_wp2_with fail
  go_quiet (first | (go_at_call 13; refine Calls.quiet_of_same (A.out _)) | (go_at_call 14; refine Calls.quiet_of_same (B.out _)))
  all_goals
    go_wp2
    go_ret
    exact ⟨rfl, by repeat (first | with_reducible exact Kept.refl _ | with_reducible refine Kept.alloc ?_ _ | with_reducible refine Kept.drew ?_ | with_reducible refine Kept.drewN ?_)⟩
set_option maxRecDepth 100000 in
set_option maxHeartbeats 4000000 in
theorem phot11_1 (t : Tm) (w : World) (lay : Lay11 w) (I : TmIn t) (ho : onT t.tac = true) (hk : t.tac % 4 = 1) : Calls Tryd.prog 12 #[tmV t] w fun e w' => e = .returned (.bool (hotT t)) ∧ Kept w w' := by
  have E : hotT t = (t.div / 8 % 2 == 1) := by
    unfold hotT
    rw [ho, Bool.true_and]
    have q : pwT t.tac = 8 := by unfold pwT; rw [if_neg (by omega)]; rw [if_pos hk]
    rw [q]
  rw [E]
  have A := hid (fun u => bit_any t.tac 2 u I.c0 I.c1)
  rw [bit2_u8 _ I.c0 I.c1, ho] at A
  have B := hid (fun u => pbit11_3 t.div u I.d0 I.d1)
  have m3 := and3_u8 _ I.c0 I.c1
  rw [hk] at m3
  obtain ⟨dv, ta, tm, tc, ts⟩ := t
  simp only at A B m3 ⊢
  have l0 := lay.1
  have c0 : w.cell? ⟨0, 1, none⟩ = some (.int .i64 3) := lay.2 1
  clear E I ho hk lay
  go_enter Tryd.func12, Tryd.ntmps12
  go_wp2_with fail
  go_quiet (first | (go_at_call 13; refine Calls.quiet_of_same (A.out _)) | (go_at_call 14; refine Calls.quiet_of_same (B.out _)))
  all_goals
    go_wp2
    go_ret
    exact ⟨rfl, by repeat (first | with_reducible exact Kept.refl _ | with_reducible refine Kept.alloc ?_ _ | with_reducible refine Kept.drew ?_ | with_reducible refine Kept.drewN ?_)⟩
set_option maxRecDepth 100000 in
set_option maxHeartbeats 4000000 in
theorem phot11_2 (t : Tm) (w : World) (lay : Lay11 w) (I : TmIn t) (ho : onT t.tac = true) (hk : t.tac % 4 = 2) : Calls Tryd.prog 12 #[tmV t] w fun e w' => e = .returned (.bool (hotT t)) ∧ Kept w w' := by
  have E : hotT t = (t.div / 32 % 2 == 1) := by
    unfold hotT
    rw [ho, Bool.true_and]
    have q : pwT t.tac = 32 := by unfold pwT; rw [if_neg (by omega)]; rw [if_neg (by omega)]; rw [if_pos hk]
    rw [q]
  rw [E]
  have A := hid (fun u => bit_any t.tac 2 u I.c0 I.c1)
  rw [bit2_u8 _ I.c0 I.c1, ho] at A
  have B := hid (fun u => pbit11_5 t.div u I.d0 I.d1)
  have m3 := and3_u8 _ I.c0 I.c1
  rw [hk] at m3
  obtain ⟨dv, ta, tm, tc, ts⟩ := t
  simp only at A B m3 ⊢
  have l0 := lay.1
  have c0 : w.cell? ⟨0, 2, none⟩ = some (.int .i64 5) := lay.2 2
  clear E I ho hk lay
  go_enter Tryd.func12, Tryd.ntmps12
  go_wp2_with fail
  go_quiet (first | (go_at_call 13; refine Calls.quiet_of_same (A.out _)) | (go_at_call 14; refine Calls.quiet_of_same (B.out _)))
  all_goals
    go_wp2
    go_ret
    exact ⟨rfl, by repeat (first | with_reducible exact Kept.refl _ | with_reducible refine Kept.alloc ?_ _ | with_reducible refine Kept.drew ?_ | with_reducible refine Kept.drewN ?_)⟩
set_option maxRecDepth 100000 in
set_option maxHeartbeats 4000000 in
theorem phot11_3 (t : Tm) (w : World) (lay : Lay11 w) (I : TmIn t) (ho : onT t.tac = true) (hk : t.tac % 4 = 3) : Calls Tryd.prog 12 #[tmV t] w fun e w' => e = .returned (.bool (hotT t)) ∧ Kept w w' := by
  have E : hotT t = (t.div / 128 % 2 == 1) := by
    unfold hotT
    rw [ho, Bool.true_and]
    have q : pwT t.tac = 128 := by unfold pwT; rw [if_neg (by omega)]; rw [if_neg (by omega)]; rw [if_neg (by omega)]
    rw [q]
  rw [E]
  have A := hid (fun u => bit_any t.tac 2 u I.c0 I.c1)
  rw [bit2_u8 _ I.c0 I.c1, ho] at A
  have B := hid (fun u => pbit11_7 t.div u I.d0 I.d1)
  have m3 := and3_u8 _ I.c0 I.c1
  rw [hk] at m3
  obtain ⟨dv, ta, tm, tc, ts⟩ := t
  simp only at A B m3 ⊢
  have l0 := lay.1
  have c0 : w.cell? ⟨0, 3, none⟩ = some (.int .i64 7) := lay.2 3
  clear E I ho hk lay
  go_enter Tryd.func12, Tryd.ntmps12
  go_wp2_with fail
  go_quiet (first | (go_at_call 13; refine Calls.quiet_of_same (A.out _)) | (go_at_call 14; refine Calls.quiet_of_same (B.out _)))
  all_goals
    go_wp2
    go_ret
    exact ⟨rfl, by repeat (first | with_reducible exact Kept.refl _ | with_reducible refine Kept.alloc ?_ _ | with_reducible refine Kept.drew ?_ | with_reducible refine Kept.drewN ?_)⟩
set_option maxRecDepth 100000 in
set_option maxHeartbeats 4000000 in
theorem phot11_n (t : Tm) (w : World) (I : TmIn t) (ho : onT t.tac = false) : Calls Tryd.prog 12 #[tmV t] w fun e w' => e = .returned (.bool (hotT t)) ∧ Kept w w' := by
  have E : hotT t = false := by unfold hotT; rw [ho, Bool.false_and]
  rw [E]
  have A := hid (fun u => bit_any t.tac 2 u I.c0 I.c1)
  rw [bit2_u8 _ I.c0 I.c1, ho] at A
  obtain ⟨dv, ta, tm, tc, ts⟩ := t
  simp only at A ⊢
  clear E I ho
  go_enter Tryd.func12, Tryd.ntmps12
  go_wp2_with fail
  go_quiet (first | (go_at_call 13; refine Calls.quiet_of_same (A.out _)))
  all_goals
    go_wp2
    go_ret
    exact ⟨rfl, by repeat (first | with_reducible exact Kept.refl _ | with_reducible refine Kept.alloc ?_ _ | with_reducible refine Kept.drew ?_ | with_reducible refine Kept.drewN ?_)⟩
theorem phot11 (t : Tm) (w : World) (lay : Lay11 w) (I : TmIn t) : Calls Tryd.prog 12 #[tmV t] w fun e w' => e = .returned (.bool (hotT t)) ∧ Kept w w' := by
  cases ho : onT t.tac
  · exact phot11_n t w I ho
  · have q : t.tac % 4 = 0 ∨ t.tac % 4 = 1 ∨ t.tac % 4 = 2 ∨ t.tac % 4 = 3 := by omega
    rcases q with q | q | q | q
    · exact phot11_0 t w lay I ho q
    · exact phot11_1 t w lay I ho q
    · exact phot11_2 t w lay I ho q
    · exact phot11_3 t w lay I ho q
end Go.Proofs.YthjpngfbabeboabDoor
