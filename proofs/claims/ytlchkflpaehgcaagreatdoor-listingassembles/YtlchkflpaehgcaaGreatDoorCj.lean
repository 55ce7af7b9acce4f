/- What Pattern and late of the document's answers of layer 6 come to. -/
import Derived.Test.YtlchkflpaehgcaaGreatDoorCb
import Derived.WalkKit
namespace Go.Proofs.YtlchkflpaehgcaaGreatDoor
open Go.RowKit
set_option linter.unusedVariables false
set_option linter.unusedSimpArgs false

theorem late_any (kd : Int) (al : Bool) (w : World) (h0 : 32 ≤ kd) (h1 : kd ≤ 46) : Calls Tryz.prog 56 #[.int .i64 kd, .bool al] w fun e w' => e = .returned (.string (patB kd al)) ∧ w' = w := by
  rcases (show kd = 32 ∨ kd = 33 ∨ kd = 34 ∨ kd = 35 ∨ kd = 36 ∨ kd = 37 ∨ kd = 38 ∨ kd = 39 ∨ kd = 40 ∨ kd = 41 ∨ kd = 42 ∨ kd = 43 ∨ kd = 44 ∨ kd = 45 ∨ kd = 46 by omega) with rfl | rfl | rfl | rfl | rfl | rfl | rfl | rfl | rfl | rfl | rfl | rfl | rfl | rfl | rfl
  all_goals
    cases al
    all_goals
      go_enter Tryz.func56, Tryz.ntmps56
      go_wp2
      go_ret
      exact ⟨by kernel_rfl, rfl⟩
set_option maxHeartbeats 4000000 in
theorem pattern_any (kd : Int) (al : Bool) (w : World) (h0 : 0 ≤ kd) (h1 : kd ≤ 46) : Calls Tryz.prog 35 #[.int .i64 kd, .bool al] w fun e w' => e = .returned (.string (patB kd al)) ∧ w' = w := by
  by_cases h32 : 32 ≤ kd
  · have E := hid (And.intro h32 h1)
    have n0 : (kd == 0) = false := by simp; omega
    have n1 : (kd == 1) = false := by simp; omega
    have n2 : (kd == 2) = false := by simp; omega
    have n3 : (kd == 3) = false := by simp; omega
    have n4 : (kd == 4) = false := by simp; omega
    have n5 : (kd == 5) = false := by simp; omega
    have n6 : (kd == 6) = false := by simp; omega
    have n7 : (kd == 7) = false := by simp; omega
    have n8 : (kd == 8) = false := by simp; omega
    have n9 : (kd == 9) = false := by simp; omega
    have n10 : (kd == 10) = false := by simp; omega
    have n11 : (kd == 11) = false := by simp; omega
    have n12 : (kd == 12) = false := by simp; omega
    have n13 : (kd == 13) = false := by simp; omega
    have n14 : (kd == 14) = false := by simp; omega
    have n15 : (kd == 15) = false := by simp; omega
    have n16 : (kd == 16) = false := by simp; omega
    have n17 : (kd == 17) = false := by simp; omega
    have n18 : (kd == 18) = false := by simp; omega
    have n19 : (kd == 19) = false := by simp; omega
    have n20 : (kd == 20) = false := by simp; omega
    have n21 : (kd == 21) = false := by simp; omega
    have n22 : (kd == 22) = false := by simp; omega
    have n23 : (kd == 23) = false := by simp; omega
    have n24 : (kd == 24) = false := by simp; omega
    have n25 : (kd == 25) = false := by simp; omega
    have n26 : (kd == 26) = false := by simp; omega
    have n27 : (kd == 27) = false := by simp; omega
    have n28 : (kd == 28) = false := by simp; omega
    have n29 : (kd == 29) = false := by simp; omega
    have n30 : (kd == 30) = false := by simp; omega
    have n31 : (kd == 31) = false := by simp; omega
    clear h32 h0 h1
    go_enter Tryz.func35, Tryz.ntmps35
    go_wp2_with fail
    refine (late_any kd al _ E.out.1 E.out.2).mono ?_
    rintro e w' ⟨rfl, rfl⟩
    go_wp2
    go_ret
    exact ⟨rfl, rfl⟩
  · rcases (show kd = 0 ∨ kd = 1 ∨ kd = 2 ∨ kd = 3 ∨ kd = 4 ∨ kd = 5 ∨ kd = 6 ∨ kd = 7 ∨ kd = 8 ∨ kd = 9 ∨ kd = 10 ∨ kd = 11 ∨ kd = 12 ∨ kd = 13 ∨ kd = 14 ∨ kd = 15 ∨ kd = 16 ∨ kd = 17 ∨ kd = 18 ∨ kd = 19 ∨ kd = 20 ∨ kd = 21 ∨ kd = 22 ∨ kd = 23 ∨ kd = 24 ∨ kd = 25 ∨ kd = 26 ∨ kd = 27 ∨ kd = 28 ∨ kd = 29 ∨ kd = 30 ∨ kd = 31 by omega) with rfl | rfl | rfl | rfl | rfl | rfl | rfl | rfl | rfl | rfl | rfl | rfl | rfl | rfl | rfl | rfl | rfl | rfl | rfl | rfl | rfl | rfl | rfl | rfl | rfl | rfl | rfl | rfl | rfl | rfl | rfl | rfl
    all_goals
      go_enter Tryz.func35, Tryz.ntmps35
      go_wp2
      go_ret
      exact ⟨by cases al <;> kernel_rfl, rfl⟩
end Go.Proofs.YtlchkflpaehgcaaGreatDoor
